import PyProof.Rows.All
import Wide.All
import OpenK.AllK
import Wide.FinOn
import Lean
import PyProof.EqAt
import PyProof.EqKinds
import PyProof.TupleCall
import PySem.Challenge.RW_ringheaps_k23_plays_of_two
set_option Elab.async false
set_option linter.all false
set_option maxRecDepth 100000
namespace L2
open PySem PySem.Spec PyProof.Rows
abbrev qQ:=Sum Int Str
def YB:qQ->Value->Bool
 | .inl k,v=>Value.isInt k v
 | .inr x,v=>Value.isStrOf x v
def RH (w:World):qQ->Int
 | .inl k=>hashInt k
 | .inr x=>hashStr w x
theorem jp:∀{k:qQ} {v:Value},YB k v=true->(∃i t,k=Sum.inl i/\v=Value.int i t)\/(∃x t,k=Sum.inr x/\v=Value.str x t)
 | .inl i,v,h=>by
   obtain⟨t,e⟩:=Value.isInt_shape (k:=i) (v:=v) h
   exact .inl ⟨i,t,rfl,e⟩
 | .inr x,v,h=>by
   obtain⟨t,e⟩:=Value.isStrOf_shape (x:=x) (v:=v) h
   exact .inr ⟨x,t,rfl,e⟩
theorem UK (i:Int) (t:Tok):YB (.inl i) (.int i t)=true:=by simp [YB,Value.isInt]
theorem UJ (x:Str) (t:Tok):YB (.inr x) (.str x t)=true:=by simp [YB,Value.isStrOf]
theorem uA (a b:Int):decide ((Sum.inl a:qQ)=Sum.inl b)=(a==b):=by
 by_cases e:a=b
 . subst e;simp
 . have h:¬(Sum.inl a:qQ)=Sum.inl b:=λq=>e (Sum.inl.inj q)
   rw[decide_eq_false h]
   exact(beq_eq_false_iff_ne.mpr e).symm
theorem ux (a b:Str):decide ((Sum.inr a:qQ)=Sum.inr b)=decide (a=b):=by
 by_cases e:a=b
 . subst e;simp
 . have h:¬(Sum.inr a:qQ)=Sum.inr b:=λq=>e (Sum.inr.inj q)
   rw[decide_eq_false h,decide_eq_false e]
theorem uz (a:Int) (b:Str):decide ((Sum.inl a:qQ)=Sum.inr b)=false:=decide_eq_false (λq=>nomatch q)
theorem uy (a:Str) (b:Int):decide ((Sum.inr a:qQ)=Sum.inl b)=false:=decide_eq_false (λq=>nomatch q)
def jh (prog:Program) (w:World):PySem.KeyKind prog w qQ where
 is:=YB
 hash:=RH w
 inj:=λv a b ha hb=>by
   rcases jp ha with ⟨i,t,rfl,rfl⟩ | ⟨x,t,rfl,rfl⟩
   . rcases jp hb with ⟨j,u,rfl,e⟩ | ⟨y,u,rfl,e⟩
     . injection e with e1 _;rw[e1]
     . exact nomatch e
   . rcases jp hb with ⟨j,u,rfl,e⟩ | ⟨y,u,rfl,e⟩
     . exact nomatch e
     . injection e with e1 _;rw[e1]
 byValue:=λk v h=>by
   rcases jp h with ⟨i,t,rfl,rfl⟩ | ⟨x,t,rfl,rfl⟩<;>rfl
 pyHash:=λhv h=>by
   rcases jp hv with ⟨i,t,rfl,rfl⟩ | ⟨x,t,rfl,rfl⟩
   . exact wpAny_pyHash_int h
   . exact wpAny_pyHash_str h
 eqBool:=λhu hv h=>by
   rcases jp hu with ⟨i,t,rfl,rfl⟩ | ⟨x,t,rfl,rfl⟩
   . rcases jp hv with ⟨j,u,rfl,rfl⟩ | ⟨y,u,rfl,rfl⟩
     . rw[uA]at h;exact wpAny_eqBool_int h
     . rw[uz]at h;exact SeqAt.EqAt.int_str i t y u _ _ _ _ h
   . rcases jp hv with ⟨j,u,rfl,rfl⟩ | ⟨y,u,rfl,rfl⟩
     . rw[uy]at h;exact SeqAt.EqAt.str_int x t j u _ _ _ _ h
     . rw[ux]at h;exact wpAny_eqBool_str h
 «strs»:=λk x t v h=>by
   rcases jp h with ⟨i,u,rfl,e⟩ | ⟨y,u,rfl,e⟩
   . exact nomatch e
   . injection e with e1 _
     subst e1
     cases v<;>rfl
theorem XW (prog:Program) (w:World) (i:Int) (t:Tok):(jh prog w).is (.inl i) (.int i t)=true:=UK i t
theorem XV (prog:Program) (w:World) (x:Str) (t:Tok):(jh prog w).is (.inr x) (.str x t)=true:=UJ x t
end L2
namespace L2
open PySem PySem.Spec PyProof.Rows
inductive V where
 | non | bl (b:Bool) | int (i:Int) | str (x:Str) | byt (b:Array UInt8) | flt (b:UInt64) | ref (a:Addr) | ty (n:String)
 deriving DecidableEq
def qJ:V->Value->Prop
 | .non,u=>u=Value.none
 | .bl b,u=>u=Value.bool b
 | .int i,u=>∃t,u=Value.int i t
 | .str x,u=>∃t,u=Value.str x t
 | .byt b,u=>∃t,u=Value.bytes b t
 | .flt b,u=>∃t,u=Value.float b t
 | .ref a,u=>u=Value.ref a
 | .ty n,u=>u=Value.type n
abbrev qC:List V->List Value->Prop:=Paired qJ
theorem qC.length {xs:List V} {us:List Value} (r:qC xs us):xs.length=us.length:=Paired.length r
theorem qC.get:∀{xs:List V} {us:List Value} {i:Nat} {x:V},qC xs us->xs[i]?=some x->∃u,us[i]?=some u/\qJ x u
 | _,_,_,_,.nil,e=>by simp at e
 | _,_,0,_,.cons r _,e=>by simp at e;subst e;exact⟨_,rfl,r⟩
 | _,_,i+1,x,.cons _ t,e=>by
   obtain⟨u,h1,h2⟩:=qC.get (i:=i) (x:=x) t (by simpa using e)
   exact⟨u,by simpa using h1,h2⟩
theorem qC.set {x:V} {u:Value} (r:qJ x u):∀{xs:List V} {us:List Value} (i:Nat),qC xs us->qC (xs.set i x) (us.set i u)
 | _,_,_,.nil=>.nil
 | _,_,0,.cons _ t=>.cons r t
 | _,_,i+1,.cons q t=>.cons q (qC.set r i t)
theorem qC.append:∀{xs ys:List V} {us ws:List Value},qC xs us->qC ys ws->qC (xs++ys) (us++ws)
 | _,_,_,_,.nil,s=>s
 | _,_,_,_,.cons r t,s=>.cons r (qC.append t s)
theorem qC.take:∀{xs:List V} {us:List Value} (n:Nat),qC xs us->qC (xs.take n) (us.take n)
 | _,_,0,_=>.nil
 | _,_,_+1,.nil=>.nil
 | _,_,n+1,.cons r t=>.cons r (qC.take n t)
theorem qC.drop:∀{xs:List V} {us:List Value} (n:Nat),qC xs us->qC (xs.drop n) (us.drop n)
 | _,_,0,r=>r
 | _,_,_+1,.nil=>.nil
 | _,_,n+1,.cons _ t=>qC.drop n t
theorem qC.none_of:∀{xs:List V} {us:List Value} {i:Nat},qC xs us->xs[i]?=none->us[i]?=none:=λ{xs us i} r e=>by
 have h1:=r.length
 have h2:xs.length<=i:=List.getElem?_eq_none_iff.mp e
 exact List.getElem?_eq_none_iff.mpr (by omega)
def Q6:Option V->Option Value->Prop
 | some v,some u=>qJ v u
 | none,none=>True
 | _,_=>False
def KV {κ:Type}:List (κ×V)->List (κ×Value)->Prop:=Paired λ(p:κ×V) (q:κ×Value)=>p.1=q.1/\qJ p.2 q.2
def kV:qQ->V
 | .inl i=>.int i
 | .inr x=>.str x
inductive HO where
 | lst (xs:List V)
 | tup (xs:List V)
 | dK (kvs:List (qQ×V)) | dT (kvs:List (List qQ×V))
 | set (S:Int->Bool) (n:Nat)
 | ins (C dx:Addr) (fs:List (Str×V))
 | own (x:Addr)
 | xd (fs:List (Str×V))
 | met (f x:Addr)
 | rng (lo hi:Int)
 | frz (o:Obj) (u:HO)
 | tbl (ps:Array Value)
 | ext (φ:Heap->Prop)
abbrev Hp:=Addr->Option HO
def upd (H:Hp) (a:Addr) (o:HO):Hp:=λb=>if b=a then some o else H b
theorem qd {H:Hp} {a:Addr} {o:HO}:upd H a o a=some o:=by unfold upd;rw[if_pos rfl]
theorem qg {H:Hp} {a b:Addr} {o:HO} (h:b≠a):upd H a o b=H b:=by unfold upd;rw[if_neg h]
theorem jN {H:Hp} {a:Addr} {o u:HO}:upd (upd H a o) a u=upd H a u:=by
 funext b;unfold upd;split<;>rfl
theorem KO {H:Hp} {a b:Addr} {o u:HO} (h:H a=some o) (h':H b=some u) (d:o≠u):a≠b:=by
 intro e;subst e;rw[h]at h';exact d (Option.some.inj h')
theorem qm {H:Hp} {a b:Addr} {o:HO} (h:H a=some o) (h':H b=none):a≠b:=by
 intro e;subst e;rw[h]at h';cases h'
def Gy (ps:Array Value) (oc:Obj):Prop:=∃(q:Str) (t:Tok) (vs:Array Value) (t':Tok),ps[0]?=some (.str q t)/\oc.data=.fields vs/\vs[1]?=some (.str q t')
section
variable (P:Program) (w:World)
def qB (H:Hp) (h:Heap) (a:Addr):HO->Prop
 | .lst xs=>xs.length<=sizeLine/\∃(its:List Value) (n:Nat),qC xs its/\h.get? a=some {cls:=.type "list",data:=.seq its.toArray n}
 | .tup xs=>xs.length<=sizeLine/\∃its:List Value,qC xs its/\IsTup h a its.toArray
 | .dK kvs=>kvs.length<=sizeLine/\(a==sysModules)=false/\∃vs,KV kvs vs/\h.DictOf (jh P w) a vs
 | .dT kvs=>kvs.length<=sizeLine/\(a==sysModules)=false/\∃xs:List (List qQ×Addr×Value),
     Paired (λ(p:List qQ×V) (q:List qQ×Addr×Value)=>p.1=q.1/\H q.2.1=some (.tup (p.1.map kV))/\qJ p.2 q.2.2) kvs xs/\
     ∃o es ep,h.get? a=some o/\o.ExactDict/\o.data=.dict es ep/\es.toList=xs.map (entryOfKey (tupleKind (jh P w)))/\(xs.map (·.1)).Nodup
 | .set S n=>h.SetOf (intKind P w) a S n
 | .ins C dx fs=>H dx=some (.own a)/\fs.length<=1000/\dx≠a/\h.get? a=some (PySem.W.instObj C dx)/\
     ∃mA,h.Ns1 dx mA/\(∀f,Q6 (fs.lookup f) (mA f))/\PySem.Within mA (fs.map (·.1))
 | .own _=>∃o,h.get? a=some o
 | .xd fs=>∃mA,h.Ns1 a mA/\∀f,Q6 (fs.lookup f) (mA f)
 | .rng lo hi=>∃t u v,h.get? a=some {cls:=.type "range",data:=.fields #[.int lo t,.int hi u,.int 1 v]}
 | .frz o u=>h.get? a=some o/\qB H h a u
 | .tbl ps=>∃ts:Array Value,h.get? a=some {cls:=.none,data:=.fields ts}/\TriplesOk ts.toList/\∀pos cv,codeAmong pos ts.toList=some cv->∃c oc,cv=.ref c/\H c=some (.frz oc (.own a))/\Gy ps oc
 | .met f x=>h.get? a=some (PySem.W.methodObj (.ref f) (.ref x))
 | .ext φ=>φ h/\(∃o,h.get? a=some o)/\∀h1 h2:Heap,φ h1->(∀o,h1.get? a=some o->h2.get? a=some o)->φ h2
def Q1 (H:Hp) (h:Heap):Prop:=∀a o,H a=some o->qB P w H h a o
end
section
variable {P:Program} {w:World} {H H':Hp} {h h':Heap} {a:Addr} {o:HO}
theorem qB.lt (x:qB P w H h a o):a < h.objs.size:=by
 cases o with
 | lst xs=>obtain⟨_,_,_,_,e⟩:=x;exact Heap.lt_size e
 | tup xs=>obtain⟨_,_,_,p⟩:=x;exact p.lt
 | dK kvs=>obtain⟨_,_,_,_,o,_,_,e,_⟩:=x;exact Heap.lt_size e
 | dT kvs=>obtain⟨_,_,_,_,o,_,_,e,_⟩:=x;exact Heap.lt_size e
 | set S n=>obtain⟨o,_,_,_,e,_⟩:=x;exact Heap.lt_size e
 | ins C dx fs=>obtain⟨_,_,_,e,_⟩:=x;exact Heap.lt_size e
 | own y=>obtain⟨_,e⟩:=x;exact Heap.lt_size e
 | xd fs=>obtain⟨_,⟨_,_,_,e,_⟩,_⟩:=x;exact Heap.lt_size e
 | rng lo hi=>obtain⟨_,_,_,e⟩:=x;exact Heap.lt_size e
 | frz ob u=>obtain⟨e,_⟩:=x;exact Heap.lt_size e
 | tbl ps=>obtain⟨_,e,_⟩:=x;exact Heap.lt_size e
 | met f y=>exact Heap.lt_size (show h.get? a=some _ from x)
 | ext φ=>obtain⟨_,⟨_,e⟩,_⟩:=x;exact Heap.lt_size e
theorem Paired.mapP {α β:Type} {F G:α->β->Prop}:∀{l₁:List α} {l₂:List β},Paired F l₁ l₂->(∀a b,F a b->G a b)->Paired G l₁ l₂
 | _,_,.nil,_=>.nil
 | _,_,.cons r t,f=>.cons (f _ _ r) (Paired.mapP t f)
theorem qB.stay (x:qB P w H h a o) (k:∀b u,(b=a\/H b=some (.own a))->h.get? b=some u->h'.get? b=some u)
   (ho:∀b,H b=some (.own a)->H' b=some (.own a)) (ht:∀b xs,H b=some (.tup xs)->H' b=some (.tup xs)) (hf:∀b o,H b=some (.frz o (.own a))->H' b=some (.frz o (.own a)):=by exact λ_ _ q=>q):qB P w H' h' a o:=by
 induction o with
 | lst xs=>obtain⟨z,its,n,r,e⟩:=x;exact⟨z,its,n,r,k _ _ (.inl rfl) e⟩
 | tup xs=>obtain⟨z,its,r,ob,e,c⟩:=x;exact⟨z,its,r,ob,k _ _ (.inl rfl) e,c⟩
 | dK kvs=>obtain⟨z,y,vs,r,ob,es,ep,e,c⟩:=x;exact⟨z,y,vs,r,ob,es,ep,k _ _ (.inl rfl) e,c⟩
 | dT kvs=>
   obtain⟨z,y,xs,r,ob,es,ep,e,c⟩:=x
   exact⟨z,y,xs,Paired.mapP r λp q z=>⟨z.1,ht _ _ z.2.1,z.2.2⟩,ob,es,ep,k _ _ (.inl rfl) e,c⟩
 | set S n=>obtain⟨ob,es,ep,t,e,c⟩:=x;exact⟨ob,es,ep,t,k _ _ (.inl rfl) e,c⟩
 | ins C dx fs=>
   obtain⟨d,z,ne,e,mA,⟨od,es,ep,e2,c⟩,r⟩:=x
   exact⟨ho _ d,z,ne,k _ _ (.inl rfl) e,mA,⟨od,es,ep,k _ _ (.inr d) e2,c⟩,r⟩
 | own y=>obtain⟨ob,e⟩:=x;exact⟨ob,k _ _ (.inl rfl) e⟩
 | xd fs=>obtain⟨mA,⟨od,es,ep,e,c⟩,r⟩:=x;exact⟨mA,⟨od,es,ep,k _ _ (.inl rfl) e,c⟩,r⟩
 | rng lo hi=>obtain⟨t,u,v,e⟩:=x;exact⟨t,u,v,k _ _ (.inl rfl) e⟩
 | frz ob u ih=>obtain⟨e,q⟩:=x;exact⟨k _ _ (.inl rfl) e,ih q⟩
 | tbl ps=>
   obtain⟨ts,e,tr,cs⟩:=x
   exact⟨ts,k a _ (.inl rfl) e,tr,λpos cv q=>let ⟨c,oc,e1,e2,e3⟩:=cs pos cv q;⟨c,oc,e1,hf c oc e2,e3⟩⟩
 | met f y=>
   have e:h.get? a=some (PySem.W.methodObj (.ref f) (.ref y)):=x
   show h'.get? a=some (PySem.W.methodObj (.ref f) (.ref y))
   exact k a _ (.inl rfl) e
 | ext φ=>obtain⟨p,⟨o,e⟩,st⟩:=x;exact⟨st _ _ p λo q=>k _ _ (.inl rfl) q,⟨o,k _ _ (.inl rfl) e⟩,st⟩
theorem Q1.lt (x:Q1 P w H h) (e:H a=some o):a < h.objs.size:=(x a o e).lt
theorem Q1.fresh (x:Q1 P w H h) (e:h.objs.size<=a):H a=none:=by
 cases q:H a with
 | none=>rfl
 | some u=>exact absurd (Nat.lt_of_lt_of_le (x.lt q) e) (Nat.lt_irrefl _)
theorem Q1.kept (x:Q1 P w H h) (k:∀b u,h.get? b=some u->h'.get? b=some u):Q1 P w H h':=λa o e=>
 (x a o e).stay (λb u _ q=>k b u q) (λ_ q=>q) λ_ _ q=>q
theorem Q1.laid (x:Q1 P w H h) (k:∀b u,h.get? b=some u->h'.get? b=some u) (hp:h.objs.size<=a) (new:qB P w (upd H a o) h' a o):Q1 P w (upd H a o) h':=λb u e=>by
 have hn:=x.fresh hp
 by_cases hb:b=a
 . subst hb;rw[qd]at e;cases e;exact new
 . rw[qg hb]at e
   exact(x b u e).stay (λc v _ q=>k c v q) (λc q=>by rw[qg (qm q hn)];exact q) (λc xs q=>by rw[qg (qm q hn)];exact q) (λc o q=>by rw[qg (qm q hn)];exact q)
end
def Rd (H:Hp) (a:Addr) (u:HO):Prop:=H a=some u\/∃o,H a=some (.frz o u)
theorem Rd.ok {P:Program} {w:World} {H:Hp} {h:Heap} {a:Addr} {u:HO} (r:Rd H a u) (x:Q1 P w H h):qB P w H h a u:=by
 rcases r with r | ⟨o,r⟩
 . exact x a u r
 . obtain⟨_,q⟩:=x a _ r
   exact q
def u8:Option HO->Prop
 | some (.lst _)=>True
 | some (.dK _)=>True
 | some (.dT _)=>True
 | some (.set _ _)=>True
 | some (.ins _ _ _)=>True
 | some (.ext _)=>True
 | _=>False
section
variable {P:Program} {w:World} {H:Hp} {h h':Heap} {x e:Addr} {o':HO}
theorem Q1.write (ok:Q1 P w H h) (mu:u8 (H x)) (he:e=x\/H e=some (.own x)) (k:∀b u,b≠e->h.get? b=some u->h'.get? b=some u) (heo:∃u,h'.get? e=some u)
   (new:qB P w (upd H x o') h' x o'):Q1 P w (upd H x o') h':=λb u q=>by
 have nown:∀c y,H c=some (.own y)->c≠x:=λc y r z=>by subst z;rw[r]at mu;exact mu
 have ntup:∀c xs,H c=some (.tup xs)->c≠x:=λc xs r z=>by subst z;rw[r]at mu;exact mu
 by_cases hb:b=x
 . subst hb;rw[qd]at q;cases q;exact new
 . rw[qg hb]at q
   by_cases hbe:b=e
   . have q':H b=some (.own x):=by
       rcases he with z | z
       . exact absurd (hbe.trans z) hb
       . rw[hbe];exact z
     rw[q]at q';cases q'
     obtain⟨v,hv⟩:=heo
     exact⟨v,by rw[hbe];exact hv⟩
   . refine(ok b u q).stay (λc v hc r=>k c v ?_ r) (λc r=>by rw[qg (nown c b r)];exact r) (λc xs r=>by rw[qg (ntup c xs r)];exact r) (λc o r=>by rw[qg (λz=>by subst z;rw[r]at mu;exact mu)];exact r)
     rcases hc with rfl | hc
     . exact hbe
     . rintro rfl
       rcases he with z | z
       . exact nown c b hc z
       . rw[hc]at z;cases z;exact hb rfl
end
structure Un (fs ex:List Addr) (H H':Hp) (h h':Heap):Prop where
 keep:∀b o,h.get? b=some o->H b=none->b∉fs->b∉ex->h'.get? b=some o
 slot:∀b o,h.get? b=some o->H b=none->b∈fs->b∉ex->∃sl,h'.get? b=some {o with slots:=sl}
 free:∀b o,h.get? b=some o->H b=none->b∉ex->H' b=none
 there:∀b o,h.get? b=some o->b∉ex->∃o',h'.get? b=some o'
 tups:∀b xs,H b=some (.tup xs)->H' b=some (.tup xs)
 frzs:∀b o u,H b=some (.frz o u)->H' b=some (.frz o u)
 tbls:∀b ps,H b=some (.tbl ps)->∃more,H' b=some (.tbl (ps++more))
section
variable {fs fs' ex ex':List Addr} {H H1 H2:Hp} {h h1 h2 h':Heap} {a x e:Addr} {o:HO}
theorem Un.any (u:Un fs ex H H1 h h1) {b:Addr} {ob:Obj} (q:h.get? b=some ob) (n:H b=none) (hx:b∉ex):∃sl,h1.get? b=some {ob with slots:=sl}:=by
 by_cases hb:b∈fs
 . exact u.slot b ob q n hb hx
 . exact⟨ob.slots,u.keep b ob q n hb hx⟩
theorem Un.kept (k:∀b u,h.get? b=some u->h'.get? b=some u):Un fs ex H H h h':=
 ⟨λb ob q _ _ _=>k b ob q,λb ob q _ _ _=>⟨ob.slots,k b ob q⟩,λ_ _ _ n _=>n,λb ob q _=>⟨ob,k b ob q⟩,λ_ _ q=>q,λ_ _ _ q=>q,λ_ ps q=>⟨#[],by rw[q];simp⟩⟩
theorem Un.refl:Un fs ex H H h h:=Un.kept λ_ _ q=>q
theorem Un.laid (k:∀b u,h.get? b=some u->h'.get? b=some u) (hp:h.objs.size<=a) (hn:H a=none):Un fs ex H (upd H a o) h h' where
 keep:=λb u q _ _ _=>k b u q
 slot:=λb u q _ _ _=>⟨u.slots,k b u q⟩
 free:=λb u q n _=>by rw[qg (Nat.ne_of_lt (Nat.lt_of_lt_of_le (Heap.lt_size q) hp))];exact n
 there:=λb u q _=>⟨u,k b u q⟩
 tups:=λb xs q=>by rw[qg (qm q hn)];exact q
 frzs:=λb u xs q=>by rw[qg (qm q hn)];exact q
 tbls:=λb ps q=>⟨#[],by rw[qg (qm q hn),q];simp⟩
theorem Un.write (mu:u8 (H x)) (he:e=x\/H e=some (.own x)) (k:∀b u,b≠e->h.get? b=some u->h'.get? b=some u) (heo:∃u,h'.get? e=some u):Un fs ex H (upd H x o) h h':=by
 have hx:∀b,H b=none->b≠x:=λb n z=>by subst z;rw[n]at mu;exact mu
 have hb:∀b,H b=none->b≠e:=λb n z=>by
   subst z
   rcases he with r | r
   . exact hx b n r
   . rw[n]at r;cases r
 have hm:∀b u,H b=some u->¬u8 (some u)->b≠x:=λb u q nm z=>by subst z;rw[q]at mu;exact nm mu
 refine⟨λb u q n _ _=>k b u (hb b n) q,λb u q n _ _=>⟨u.slots,k b u (hb b n) q⟩,λb u q n _=>by rw[qg (hx b n)];exact n,λb u q _=>?_,
   λb xs q=>by rw[qg (hm b _ q λz=>z)];exact q,λb u xs q=>by rw[qg (hm b _ q λz=>z)];exact q,λb ps q=>⟨#[],by rw[qg (hm b _ q λz=>z),q];simp⟩⟩
 by_cases hbe:b=e
 . subst hbe;exact heo
 . exact⟨u,k b u hbe q⟩
end
def GD (h:Heap) (H:Hp):List Addr:=(List.range h.objs.size).filter λa=>(H a).isSome
def Yg (h:Heap) (H:Hp):Heap:=PySem.W.hideAll h (GD h H)
theorem UR (h:Heap) (H:Hp):(Yg h H).objs.size=h.objs.size:=PySem.W.hideAll_size _ _
theorem kW {h:Heap} {H:Hp} {b:Addr} {o:Obj} (e:h.get? b=some o) (n:H b=none):(Yg h H).get? b=some o:=
 PySem.W.hideAll_get _ e λhm=>by
   have q:(H b).isSome=true:=(List.mem_filter.mp hm).2
   rw[n]at q;simp at q
theorem xv {h:Heap} {H:Hp} {b:Addr} {o:Obj} (e:(Yg h H).get? b=some o):h.get? b=some o/\H b=none:=by
 have e':h.get? b=some o:=PySem.W.of_hideAll (GD h H) e
 refine⟨e',?_⟩
 cases q:H b with
 | none=>rfl
 | some x=>
   have hm:b∈GD h H:=List.mem_filter.mpr ⟨List.mem_range.mpr (Heap.lt_size e'),by simp [q]⟩
   have z:(Yg h H).get? b=none:=PySem.W.hideAll_none (GD h H) hm
   rw[z]at e;cases e
def xY (g h:Heap) (L:Addr):List (Addr×Obj):=(List.range h.objs.size).filterMap λa=>if a=L\/(g.get? a).isSome=true then none else (h.get? a).map λo=>(a,o)
def rest (g h:Heap) (L d:Addr):List (Addr×Obj):=(xY g h L).filter λp=>decide (p.1≠d)
end L2
namespace L2
open PySem PySem.Spec PyProof.Rows
structure Mod (K:PySem.W.Frag) (mg:Str->Option Value) (base:Heap):Prop where
 kin:K.In base
 glob:base.Ns mainGlobals mg
 blt:∃mb,base.Ns builtinsNs mb/\∀x:Str,x≠"__name__"->mb x=bootBuiltins x
 nolimit:base.NoLimit
structure Cx where
 prog:Program
 w:World
 K:PySem.W.Frag
 mg:Str->Option Value
 base:Heap
 A:Around
 N:List Str
 s₀:Shared
 H₀:Hp
 env:Env
 outer:List Env
 stack:List Env
 ex:List Addr
 fn:Str->Bool
 calm:Bool
 pn:List (Addr×Obj)
 xe:Value->Shared->Prop
def ZO (l:List Env):List Addr:=l.filterMap (·.frame)
abbrev Cx.fs (X:Cx):List Addr:=ZO X.outer
def u6 (sc:Scope) (x:Str):Prop:=sc.names.lookup x=some .local\/sc.names.lookup x=some .cell\/sc.names.lookup x=some .free
def Kb (sc:Scope) (x:Str):Prop:=sc.names.lookup x=some .local\/sc.names.lookup x=some .cell
def R3 (env:Env) (h:Heap) (m:Str->Option Value) (x:Str) (u:Value):Prop:=
 (env.kindOf x=some .local/\m x=some u)\/((env.kindOf x=some .cell\/env.kindOf x=some .free)/\∃c,env.cells.lookup x=some c/\h.IsCell c (some u))
structure Cx.Ok (X:Cx):Prop where
 mod:Mod X.K X.mg X.base
 kind:X.env.scope.kind=.function
 glob:X.env.globals=mainGlobals
 blt:X.env.builtins=builtinsNs
 above:X.s₀.heap.objs.size<=X.env.locals
 inj:∀x y c,X.env.cells.lookup x=some c->X.env.cells.lookup y=some c->x=y
 has:∀x,(X.env.kindOf x=some .cell\/X.env.kindOf x=some .free)->∃c,X.env.cells.lookup x=some c
 cab:∀x c,X.fn x=true->X.env.cells.lookup x=some c->X.s₀.heap.objs.size<=c
 hd:X.calm=true->X.A.handled=none
 frames:X.A.frames=some X.stack
 stk:X.stack=X.outer\/(X.stack=X.env::X.outer/\X.env.frame=some X.env.locals)
 exf:∀b∈X.ex,b≠X.env.locals/\∀x c,X.env.cells.lookup x=some c->c≠b
 bs:∀b o,X.base.get? b=some o->X.s₀.heap.get? b=some o/\X.H₀ b=none
 bsz:X.base.objs.size<=X.s₀.heap.objs.size
 noex:∀b o,X.base.get? b=some o->b∉X.ex
 exfs:∀b∈X.ex,b∉X.fs
 funs:X.s₀.heap.FunFrames X.base X.outer
 frf:∀b∈X.fs,X.H₀ b=none
structure qr (X:Cx) (pins:List (Addr×Obj)) (σ:List (Option V)) (H:Hp) (s:Shared):Prop where
 ok:X.Ok
 os:s.os=X.s₀.os
 bare:AllBare s.gens
 base:Un X.fs X.ex X.H₀ H X.s₀.heap s.heap
 loc:∃m,s.heap.Ns X.env.locals m/\∀(i:Nat) (x:Str) (v:V),X.N[i]?=some x->σ[i]?=some (some v)->u6 X.env.scope x->∃u,qJ v u/\R3 X.env s.heap m x u
 cell:∀x c,X.env.cells.lookup x=some c->∃v,s.heap.IsCell c v
 free:H X.env.locals=none
 freeC:∀x c,X.env.cells.lookup x=some c->H c=none\/(X.fn x=false/\∃o,H c=some (.frz o (.frz o (.own 0))))
 pin:∀p∈X.pn++pins,s.heap.get? p.1=some p.2/\H p.1=none/\p.1≠X.env.locals/\p.1∉X.fs/\∀v,p.2.data≠.cell v
 hok:Q1 X.prog X.w H s.heap
 len:σ.length=X.N.length
section
variable {X:Cx} {pins:List (Addr×Obj)} {σ:List (Option V)} {H H':Hp} {s:Shared} {h':Heap}
theorem Cx.Ok.nofr (ok:X.Ok) {b:Addr} {o:Obj} (e:X.base.get? b=some o):b∉X.fs:=λhb=>by
 have:=(ok.funs.mem hb).1
 rw[e]at this;cases this
theorem qr.bs (I:qr X pins σ H s):∀b o,X.base.get? b=some o->s.heap.get? b=some o/\H b=none:=λb o e=>
 ⟨I.base.keep b o (I.ok.bs b o e).1 (I.ok.bs b o e).2 (I.ok.nofr e) (I.ok.noex b o e),I.base.free b o (I.ok.bs b o e).1 (I.ok.bs b o e).2 (I.ok.noex b o e)⟩
theorem qr.bk (I:qr X pins σ H s):∀b o,X.base.get? b=some o->s.heap.get? b=some o:=λb o e=>(I.bs b o e).1
theorem qr.mod (I:qr X pins σ H s):Mod X.K X.mg X.base:=I.ok.mod
theorem qr.kIn (I:qr X pins σ H s):X.K.In s.heap:=I.ok.mod.kin.keeps I.bk
theorem qr.lt (I:qr X pins σ H s):X.env.locals < s.heap.objs.size:=let ⟨_,hn,_⟩:=I.loc;hn.lt
theorem qr.sz (I:qr X pins σ H s):X.s₀.heap.objs.size<=s.heap.objs.size:=Nat.le_trans I.ok.above (Nat.le_of_lt I.lt)
theorem qr.nofs (I:qr X pins σ H s) {a:Addr} (h:s.heap.objs.size<=a):a∉X.fs:=λhb=>by
 obtain⟨_,o,ho,_⟩:=I.ok.funs.mem hb
 exact absurd (Nat.lt_of_lt_of_le (Heap.lt_size ho) (Nat.le_trans I.sz h)) (Nat.lt_irrefl _)
theorem qr.cne (I:qr X pins σ H s):∀x c,X.env.cells.lookup x=some c->c≠X.env.locals:=λx c e z=>by
 obtain⟨v,o,ho,hd⟩:=I.cell x c e
 obtain⟨m,⟨o',es,ep,ho',hd',_⟩,_⟩:=I.loc
 rw[z,ho']at ho;cases ho;rw[hd']at hd;cases hd
theorem qr.funs (I:qr X pins σ H s):s.heap.FunFrames X.base X.outer:=by
 have all:∀(l:List Env),(∀b∈ZO l,b∈X.fs)->X.s₀.heap.FunFrames X.base l->s.heap.FunFrames X.base l:=by
   intro l
   induction l with
   | nil=>intro _ _;trivial
   | cons env r ih=>
     intro hs hl
     obtain⟨hk,⟨L,o,hf,hn,ho,hd⟩,hr⟩:=hl
     have hL:L∈X.fs:=hs L (by unfold ZO;rw[List.filterMap_cons,hf];exact List.mem_cons_self)
     obtain⟨sl,e⟩:=I.base.slot L o ho (I.ok.frf L hL) hL λz=>I.ok.exfs L z hL
     exact⟨hk,⟨L,_,hf,hn,e,hd⟩,ih (λb hb=>hs b (by unfold ZO;rw[List.filterMap_cons,hf];exact List.mem_cons_of_mem _ hb)) hr⟩
 exact all X.outer (λ_ hb=>hb) I.ok.funs
theorem qr.stack (I:qr X pins σ H s):s.heap.FunFrames X.base X.stack:=by
 rcases I.ok.stk with e | ⟨e,hf⟩
 . rw[e];exact I.funs
 . rw[e]
   obtain⟨m,hn,_⟩:=I.loc
   refine .cons (by rw[I.ok.kind];decide) hf hn ?_ I.funs
   exact Heap.get?_none_of_le (Nat.le_trans I.ok.bsz I.ok.above)
theorem qr.stkSub (I:qr X pins σ H s):∀b∈ZO X.stack,b∈X.env.locals::X.fs:=λb hb=>by
 rcases I.ok.stk with e | ⟨e,hf⟩
 . rw[e]at hb;exact List.mem_cons_of_mem _ hb
 . rw[e]at hb
   unfold ZO at hb
   rw[List.filterMap_cons,hf]at hb
   exact hb
theorem qr.stkFree (I:qr X pins σ H s):∀b∈ZO X.stack,H b=none:=λb hb=>by
 rcases List.mem_cons.mp (I.stkSub b hb) with e | hb
 . rw[e];exact I.free
 . obtain⟨_,o,ho,_⟩:=I.ok.funs.mem hb
   exact I.base.free b o ho (I.ok.frf b hb) λz=>I.ok.exfs b z hb
theorem qr.step {g':Array GenState} {t':Nat} {d':Drawn} {ch:List Addr} (I:qr X pins σ H s)
   (hch:∀b∈ch,(b∈X.ex\/X.s₀.heap.objs.size<=b)/\b≠X.env.locals/\(∀x c,X.env.cells.lookup x=some c->c≠b)/\∀p∈X.pn++pins,p.1≠b)
   (keep:∀b o,b≠X.env.locals->b∉X.fs->b∉ch->s.heap.get? b=some o->H b=none->h'.get? b=some o)
   (slot:∀b o,b≠X.env.locals->b∈X.fs->b∉ch->s.heap.get? b=some o->H b=none->∃sl,h'.get? b=some {o with slots:=sl}) (free:∀b o,b∉ch->s.heap.get? b=some o->H b=none->H' b=none)
   (there:∀b o,b∉ch->s.heap.get? b=some o->∃o',h'.get? b=some o')
   (tups:∀b xs,H b=some (.tup xs)->H' b=some (.tup xs)) (frzs:∀b o u,H b=some (.frz o u)->H' b=some (.frz o u)) (tbls:∀b ps,H b=some (.tbl ps)->∃more,H' b=some (.tbl (ps++more)))
   (ns:∀m,s.heap.Ns X.env.locals m->h'.Ns X.env.locals m) (hok:Q1 X.prog X.w H' h') (hg:AllBare g'):
   qr X pins σ H' {s with heap:=h',gens:=g',drawn:=d',toks:=t'}:=by
 have neL:∀b o,X.s₀.heap.get? b=some o->b≠X.env.locals:=λb o e=>Nat.ne_of_lt (Nat.lt_of_lt_of_le (Heap.lt_size e) I.ok.above)
 have neC:∀b o,X.s₀.heap.get? b=some o->b∉X.ex->b∉ch:=λb o e hx hb=>by
   rcases(hch b hb).1 with z | z
   . exact hx z
   . exact absurd (Nat.lt_of_lt_of_le (Heap.lt_size e) z) (Nat.lt_irrefl _)
 have cellK:∀x c,X.env.cells.lookup x=some c->∀v,s.heap.IsCell c v->h'.IsCell c v:=λx c e v ⟨o,ho,hd⟩=>by
   have nch:c∉ch:=λz=>(hch c z).2.2.1 x c e rfl
   rcases I.freeC x c e with fc | ⟨_,oc,fc⟩
   . by_cases hc:c∈X.fs
     . obtain⟨sl,q⟩:=slot c o (I.cne x c e) hc nch ho fc
       exact⟨_,q,hd⟩
     . exact⟨o,keep c o (I.cne x c e) hc nch ho fc,hd⟩
   . obtain⟨e1,_⟩:=(show qB X.prog X.w H s.heap c (.frz oc (.frz oc (.own 0))) from I.hok c _ fc)
     obtain⟨e2,_⟩:=(show qB X.prog X.w H' h' c (.frz oc (.frz oc (.own 0))) from hok c _ (frzs c oc _ fc))
     rw[ho]at e1
     cases e1
     exact⟨o,e2,hd⟩
 refine⟨I.ok,I.os,hg,⟨λb o e n hb hx=>?_,λb o e n hb hx=>?_,λb o e n hx=>?_,λb o e hx=>?_,λb xs e=>tups b xs (I.base.tups b xs e),λb o xs e=>frzs b o xs (I.base.frzs b o xs e),λb ps e=>?_⟩,?_,λx c e=>?_,?_,λx c e=>?_,λp hp=>?_,hok,I.len⟩
 . exact keep b o (neL b o e) hb (neC b o e hx) (I.base.keep b o e n hb hx) (I.base.free b o e n hx)
 . obtain⟨sl,e1⟩:=I.base.slot b o e n hb hx
   obtain⟨sl',e2⟩:=slot b _ (neL b o e) hb (neC b o e hx) e1 (I.base.free b o e n hx)
   exact⟨sl',e2⟩
 . obtain⟨o',e1⟩:=I.base.there b o e hx
   exact free b o' (neC b o e hx) e1 (I.base.free b o e n hx)
 . obtain⟨o',e1⟩:=I.base.there b o e hx
   exact there b o' (neC b o e hx) e1
 . obtain⟨m1,e1⟩:=I.base.tbls b ps e
   obtain⟨m2,e2⟩:=tbls b _ e1
   exact⟨m1++m2,by rw[e2,Array.append_assoc]⟩
 . obtain⟨m,hn,hl⟩:=I.loc
   refine⟨m,ns m hn,λi x v e1 e2 e3=>?_⟩
   obtain⟨u,r,l⟩:=hl i x v e1 e2 e3
   refine⟨u,r,?_⟩
   rcases l with l | ⟨k,c,e,z⟩
   . exact .inl l
   . exact .inr ⟨k,c,e,cellK x c e _ z⟩
 . obtain⟨v,z⟩:=I.cell x c e
   exact⟨v,cellK x c e v z⟩
 . obtain⟨m,⟨o,_,_,ho,_⟩,_⟩:=I.loc
   exact free _ o (λz=>(hch _ z).2.1 rfl) ho I.free
 . obtain⟨v,o,ho,hd⟩:=I.cell x c e
   rcases I.freeC x c e with fc | ⟨fx,oc,fc⟩
   . exact .inl (free c o (λz=>(hch c z).2.2.1 x c e rfl) ho fc)
   . exact .inr ⟨fx,oc,frzs c oc _ fc⟩
 . obtain⟨e,n,ne,nf,d⟩:=I.pin p hp
   have nch:p.1∉ch:=λz=>(hch p.1 z).2.2.2 p hp rfl
   exact⟨keep p.1 p.2 ne nf nch e n,free p.1 p.2 nch e n,ne,nf,d⟩
theorem qr.un {t':Nat} (I:qr X pins σ H s) (u:Un X.fs [] H H' s.heap h') (hok:Q1 X.prog X.w H' h'):qr X pins σ H' {s with heap:=h',toks:=t'}:=by
 obtain⟨m,⟨o,es,ep,ho,r⟩,_⟩:=id I.loc
 obtain⟨sl,hL⟩:=u.any ho I.free (by simp)
 exact I.step (g':=s.gens) (d':=s.drawn) (ch:=[]) (λ_ z=>nomatch z) (λb o _ hb _ e n=>u.keep b o e n hb (by simp)) (λb o _ hb _ e n=>u.slot b o e n hb (by simp)) (λb o _ e n=>u.free b o e n (by simp)) (λb o _ e=>u.there b o e (by simp)) u.tups u.frzs u.tbls (λm' hm=>by
   obtain⟨o',es',ep',ho',r'⟩:=hm
   rw[ho]at ho';cases ho'
   exact⟨_,es',ep',hL,r'⟩) hok I.bare
theorem qr.call {g':Array GenState} {t':Nat} {d':Drawn} {ch:List Addr} (I:qr X pins σ H s) (u:Un (ZO X.stack) ch H H' s.heap h') (hok:Q1 X.prog X.w H' h') (hg:AllBare g')
   (hch:∀b∈ch,(b∈X.ex\/X.s₀.heap.objs.size<=b)/\b≠X.env.locals/\(∀x c,X.env.cells.lookup x=some c->c≠b)/\∀p∈X.pn++pins,p.1≠b):
   qr X pins σ H' {s with heap:=h',gens:=g',drawn:=d',toks:=t'}:=by
 obtain⟨m,⟨o,es,ep,ho,r⟩,_⟩:=id I.loc
 obtain⟨sl,hL⟩:=u.any ho I.free λz=>(hch _ z).2.1 rfl
 exact I.step (ch:=ch) hch (λb o hL hb hc e n=>u.keep b o e n (λz=>(List.mem_cons.mp (I.stkSub b z)).elim hL hb) hc) (λb o _ _ hc e n=>u.any e n hc) (λb o hc e n=>u.free b o e n hc) (λb o hc e=>u.there b o e hc) u.tups u.frzs u.tbls (λm' hm=>by
   obtain⟨o',es',ep',ho',r'⟩:=hm
   rw[ho]at ho';cases ho'
   exact⟨_,es',ep',hL,r'⟩) hok hg
theorem qr.turned {t':Nat} {it:Addr} (I:qr X pins σ H s) (k:∀b o,b≠it->s.heap.get? b=some o->h'.get? b=some o) (hn:H it=none) (hL:it≠X.env.locals)
   (h1:it∈X.ex\/X.s₀.heap.objs.size<=it) (h2:∀x c,X.env.cells.lookup x=some c->c≠it) (h3:∀p∈X.pn++pins,p.1≠it):qr X pins σ H {s with heap:=h',toks:=t'}:=by
 have nit:∀b u,H b=some u->b≠it:=λb u e z=>by rw[z,hn]at e;cases e
 refine I.step (g':=s.gens) (d':=s.drawn) (ch:=[it]) (λb hb=>?_) (λb o _ _ hc e _=>k b o (λz=>hc (by simp [z])) e) (λb o _ _ hc e _=>⟨o.slots,k b o (λz=>hc (by simp [z])) e⟩) (λ_ _ _ _ n=>n)
   (λb o hc e=>⟨o,k b o (λz=>hc (by simp [z])) e⟩) (λ_ _ e=>e) (λ_ _ _ e=>e) (λb ps e=>⟨#[],by rw[e];simp⟩) (λm hm=>?_) (λb u e=>?_) I.bare
 . have e:b=it:=by simpa using hb
   subst e
   exact⟨h1,hL,h2,h3⟩
 . obtain⟨o,es,ep,ho,r⟩:=hm
   exact⟨o,es,ep,k _ o (Ne.symm hL) ho,r⟩
 . refine(I.hok b u e).stay (λc v hc q=>k c v ?_ q) (λ_ q=>q) λ_ _ q=>q
   rcases hc with z | z
   . rw[z];exact nit b u e
   . exact nit c _ z
theorem qr.tok (I:qr X pins σ H s) (t:Nat):qr X pins σ H {s with toks:=t}:=I.un (h':=s.heap) (t':=t) Un.refl I.hok
theorem qr.kept {t':Nat} (I:qr X pins σ H s) (k:∀b u,s.heap.get? b=some u->h'.get? b=some u):qr X pins σ H {s with heap:=h',toks:=t'}:=I.un (Un.kept k) (I.hok.kept k)
theorem qr.laid {a:Addr} {o:HO} {t':Nat} (I:qr X pins σ H s) (k:∀b u,s.heap.get? b=some u->h'.get? b=some u) (hp:s.heap.objs.size<=a) (new:qB X.prog X.w (upd H a o) h' a o):
   qr X pins σ (upd H a o) {s with heap:=h',toks:=t'}:=I.un (Un.laid k hp (I.hok.fresh hp)) (I.hok.laid k hp new)
theorem qr.write {x e:Addr} {o:HO} {t':Nat} (I:qr X pins σ H s) (mu:u8 (H x)) (he:e=x\/H e=some (.own x)) (k:∀b u,b≠e->s.heap.get? b=some u->h'.get? b=some u) (heo:∃u,h'.get? e=some u)
   (new:qB X.prog X.w (upd H x o) h' x o):qr X pins σ (upd H x o) {s with heap:=h',toks:=t'}:=I.un (Un.write mu he k heo) (I.hok.write mu he k heo new)
theorem qr.pins_of {pins':List (Addr×Obj)} (I:qr X pins σ H s) (h:∀p∈pins',s.heap.get? p.1=some p.2/\H p.1=none/\p.1≠X.env.locals/\p.1∉X.fs/\∀v,p.2.data≠.cell v):qr X pins' σ H s:=
 ⟨I.ok,I.os,I.bare,I.base,I.loc,I.cell,I.free,I.freeC,λp hp=>(List.mem_append.mp hp).elim (λz=>I.pin p (List.mem_append_left _ z)) (h p),I.hok,I.len⟩
theorem zA {N:List Str} (hN:N.Nodup) {i j:Nat} {x:Str} (a:N[i]?=some x) (b:N[j]?=some x):i=j:=by
 obtain⟨h1,e1⟩:=List.getElem?_eq_some_iff.mp a
 obtain⟨h2,e2⟩:=List.getElem?_eq_some_iff.mp b
 exact(List.getElem_inj hN).mp (e1.trans e2.symm)
theorem Zu {M:Model} {A:Around} {E:Value->Shared->Prop} {i:Nat} {x:Str} {v:V} {u:Value} {Q:Unit->Shared->Prop} (I:qr X pins σ H s) (hN:X.N.Nodup) (hi:X.N[i]?=some x) (hx:Kb X.env.scope x) (r:qJ v u)
   (h:∀s',qr X pins (σ.set i (some v)) H s'->(∃a,Heap.SameBut a s.heap s'.heap/\(a=X.env.locals\/X.env.cells.lookup x=some a))->Q () s') (hf:X.fn x=true\/X.env.scope.names.lookup x=some .local:=by first | exact .inl rfl | exact .inr rfl | assumption):wpAny M A (storeName X.env x u) Q E s:=by
 obtain⟨m,hn,hl⟩:=id I.loc
 have hcls:(X.env.scope.kind==.class || (X.env.scope.kind==.module&&X.env.locals != X.env.globals))=false:=by rw[I.ok.kind];rfl
 have hiσ:i < σ.length:=by rw[I.len];exact(List.getElem?_eq_some_iff.mp hi).1
 have cne:=I.cne
 have tracked:∀{a:Addr} {h':Heap},(∃o,s.heap.get? a=some o/\H a=none)->Heap.SameBut a s.heap h'->Q1 X.prog X.w H h':=λ{a h'} ha hs b ob e=>by
   obtain⟨_,_,hfree⟩:=ha
   refine(I.hok b ob e).stay (λc w' hc q=>(hs.2 c ?_).trans q) (λ_ q=>q) λ_ _ q=>q
   rintro rfl
   rcases hc with rfl | hc
   . rw[hfree]at e;cases e
   . rw[hfree]at hc;cases hc
 rcases hx with hk | hk
 . refine wpAny_storeName_local hk hn (λh' hn' hs=>?_) hcls
   obtain⟨oL,_,_,hoL,_⟩:=id hn
   refine h _ ⟨I.ok,I.os,I.bare,⟨λb o e n hb hx=>?_,λb o e n hb hx=>?_,I.base.free,λb o e hx=>?_,I.base.tups,I.base.frzs,I.base.tbls⟩,⟨_,hn',λj y v' e1 e2 e3=>?_⟩,λy c e=>?_,I.free,I.freeC,λp hp=>?_,tracked ⟨oL,hoL,I.free⟩ hs,by simpa using I.len⟩ ⟨_,hs,.inl rfl⟩
   . exact(hs.2 b (Nat.ne_of_lt (Nat.lt_of_lt_of_le (Heap.lt_size e) I.ok.above))).trans (I.base.keep b o e n hb hx)
   . obtain⟨sl,e1⟩:=I.base.slot b o e n hb hx
     exact⟨sl,(hs.2 b (Nat.ne_of_lt (Nat.lt_of_lt_of_le (Heap.lt_size e) I.ok.above))).trans e1⟩
   . obtain⟨o',e1⟩:=I.base.there b o e hx
     exact⟨o',(hs.2 b (Nat.ne_of_lt (Nat.lt_of_lt_of_le (Heap.lt_size e) I.ok.above))).trans e1⟩
   . by_cases hj:j=i
     . subst hj
       rw[hi]at e1;cases e1
       rw[List.getElem?_set_self hiσ]at e2
       cases e2
       exact⟨u,r,.inl ⟨hk,by simp⟩⟩
     . rw[List.getElem?_set_ne (Ne.symm hj)]at e2
       obtain⟨u',r',q⟩:=hl j y v' e1 e2 e3
       refine⟨u',r',?_⟩
       rcases q with ⟨k,e⟩ | ⟨k,c,e,z⟩
       . refine .inl ⟨k,?_⟩
         have:y≠x:=λe=>hj (zA hN e1 (e▸hi))
         simp [this,e]
       . exact .inr ⟨k,c,e,z.sameBut hs (cne y c e)⟩
   . obtain⟨w',z⟩:=I.cell y c e
     exact⟨w',z.sameBut hs (cne y c e)⟩
   . obtain⟨e,n,ne,nf,d⟩:=I.pin p hp
     exact⟨(hs.2 p.1 ne).trans e,n,ne,nf,d⟩
 . have hfn:X.fn x=true:=by
     rcases hf with z | z
     . exact z
     . rw[z]at hk;cases hk
   obtain⟨c,hc⟩:=I.ok.has x (.inl hk)
   obtain⟨w',z⟩:=I.cell x c hc
   refine wpAny_storeName_cell I.ok.kind hk hc z (λh' hc' hs=>?_)
   obtain⟨oc,hoc,hocd⟩:=id z
   have fcn:H c=none:=(I.freeC x c hc).elim id λz=>by rw[hfn]at z;cases z.1
   refine h {s with heap:=h'} ⟨I.ok,I.os,I.bare,⟨λb o e n hb hx=>?_,λb o e n hb hx=>?_,I.base.free,λb o e hx=>?_,I.base.tups,I.base.frzs,I.base.tbls⟩,⟨m,hn.sameBut hs (Ne.symm (cne x c hc)),λj y v' e1 e2 e3=>?_⟩,λy c' e=>?_,I.free,I.freeC,λp hp=>?_,tracked ⟨oc,hoc,fcn⟩ hs,by simpa using I.len⟩ ⟨c,hs,.inr hc⟩
   . exact(hs.2 b (Nat.ne_of_lt (Nat.lt_of_lt_of_le (Heap.lt_size e) (I.ok.cab x c hfn hc)))).trans (I.base.keep b o e n hb hx)
   . obtain⟨sl,e1⟩:=I.base.slot b o e n hb hx
     exact⟨sl,(hs.2 b (Nat.ne_of_lt (Nat.lt_of_lt_of_le (Heap.lt_size e) (I.ok.cab x c hfn hc)))).trans e1⟩
   . obtain⟨o',e1⟩:=I.base.there b o e hx
     exact⟨o',(hs.2 b (Nat.ne_of_lt (Nat.lt_of_lt_of_le (Heap.lt_size e) (I.ok.cab x c hfn hc)))).trans e1⟩
   . by_cases hj:j=i
     . subst hj
       rw[hi]at e1;cases e1
       rw[List.getElem?_set_self hiσ]at e2
       cases e2
       exact⟨u,r,.inr ⟨.inl hk,c,hc,hc'⟩⟩
     . rw[List.getElem?_set_ne (Ne.symm hj)]at e2
       obtain⟨u',r',q⟩:=hl j y v' e1 e2 e3
       refine⟨u',r',?_⟩
       rcases q with q | ⟨k,c',e,z'⟩
       . exact .inl q
       . refine .inr ⟨k,c',e,z'.sameBut hs ?_⟩
         rintro rfl
         exact hj (zA hN e1 (I.ok.inj _ _ _ e hc▸hi))
   . by_cases hcc:c'=c
     . subst hcc;exact⟨_,hc'⟩
     . obtain⟨w2,z2⟩:=I.cell y c' e
       exact⟨w2,z2.sameBut hs hcc⟩
   . obtain⟨e,n,ne,nf,d⟩:=I.pin p hp
     refine⟨(hs.2 p.1 ?_).trans e,n,ne,nf,d⟩
     intro q
     rw[q,hoc]at e
     have q':oc=p.2:=Option.some.inj e
     exact d w' (by rw[<-q'];exact hocd)
theorem ze {M:Model} {A:Around} {E:Value->Shared->Prop} {i:Nat} {x:Str} {v:V} {u:Value} {Q:Unit->Shared->Prop} (I:qr X pins σ H s) (hN:X.N.Nodup) (hi:X.N[i]?=some x) (hx:Kb X.env.scope x) (r:qJ v u)
   (h:∀s',qr X pins (σ.set i (some v)) H s'->Q () s') (hf:X.fn x=true\/X.env.scope.names.lookup x=some .local:=by first | exact .inl rfl | exact .inr rfl | assumption):wpAny M A (storeName X.env x u) Q E s:=
 Zu I hN hi hx r (λs' I' _=>h s' I') hf
theorem qr.call' {s':Shared} {ch:List Addr} (I:qr X pins σ H s) (ho:s'.os=s.os) (u:Un (ZO X.stack) ch H H' s.heap s'.heap) (hok:Q1 X.prog X.w H' s'.heap) (hg:AllBare s'.gens)
   (hch:∀b∈ch,(b∈X.ex\/X.s₀.heap.objs.size<=b)/\b≠X.env.locals/\(∀x c,X.env.cells.lookup x=some c->c≠b)/\∀p∈X.pn++pins,p.1≠b):qr X pins σ H' s':=by
 obtain⟨h',g',d',t',o'⟩:=s'
 have e:o'=s.os:=ho
 subst e
 exact I.call (g':=g') (t':=t') (d':=d') u hok hg hch
end
abbrev XK:=Value->Option Addr->Hp->Prop
abbrev St:=List (Option V)
abbrev VK:=V->Hp->Prop
abbrev TE:=St->Hp->VK->Prop
abbrev TT:=St->Hp->(Bool->Hp->Prop)->Prop
abbrev TA:=St->Hp->(List V->Hp->Prop)->Prop
structure QF where
 nx:St->Hp->Prop
 rt:VK
 bk:St->Hp->Prop:=λ_ _=>False
 ct:St->Hp->Prop:=λ_ _=>False
abbrev TS:=QF->St->Hp->Prop
def EP (X:Cx) (pins:List (Addr×Obj)) (σ:St) (Q:VK) (u:Value) (s':Shared):Prop:=∃v H',qr X pins σ H' s'/\qJ v u/\Q v H'
def TP (X:Cx) (pins:List (Addr×Obj)) (σ:St) (Q:Bool->Hp->Prop) (b:Bool) (s':Shared):Prop:=∃H',qr X pins σ H' s'/\Q b H'
def AP (X:Cx) (pins:List (Addr×Obj)) (σ:St) (Q:List V->Hp->Prop) (us:List Value) (s':Shared):Prop:=∃vs H',qr X pins σ H' s'/\qC vs us/\Q vs H'
def SP (X:Cx) (pins:List (Addr×Obj)) (D:QF) (f:Flow) (s':Shared):Prop:=
 match f with
 | .next=>∃σ' H',qr X pins σ' H' s'/\D.nx σ' H'
 | .brk=>∃σ' H',qr X pins σ' H' s'/\D.bk σ' H'
 | .cont=>∃σ' H',qr X pins σ' H' s'/\D.ct σ' H'
 | .ret u=>∃v σ' H',qr X pins σ' H' s'/\qJ v u/\D.rt v H'
def PE (X:Cx) (e:Expr) (t:TE):Prop:=
 ∀(pins:List (Addr×Obj)) (s:Shared) (σ:St) (H:Hp) (Q:VK),qr X pins σ H s->t σ H Q->wpAny (model X.prog X.w) X.A (eval e X.env) (EP X pins σ Q) X.xe s
@[irreducible] def JE (X:Cx) (e:Expr) (t:TE):Prop:=PE X e t
theorem JE.of {X:Cx} {e:Expr} {t:TE} (h:PE X e t):JE X e t:=by unfold JE;exact h
theorem JE.to {X:Cx} {e:Expr} {t:TE} (h:JE X e t):PE X e t:=by unfold JE at h;exact h
def PT (X:Cx) (e:Expr) (t:TT):Prop:=
 ∀(pins:List (Addr×Obj)) (s:Shared) (σ:St) (H:Hp) (Q:Bool->Hp->Prop),qr X pins σ H s->t σ H Q->wpAny (model X.prog X.w) X.A (isTrue e X.env (eval e X.env)) (TP X pins σ Q) X.xe s
@[irreducible] def JT (X:Cx) (e:Expr) (t:TT):Prop:=PT X e t
theorem JT.of {X:Cx} {e:Expr} {t:TT} (h:PT X e t):JT X e t:=by unfold JT;exact h
theorem JT.to {X:Cx} {e:Expr} {t:TT} (h:JT X e t):PT X e t:=by unfold JT at h;exact h
def PW (X:Cx) (e:Expr) (t:TT):Prop:=
 ∀(whole:Sem Value) (pins:List (Addr×Obj)) (s:Shared) (σ:St) (H:Hp) (Q:Bool->Hp->Prop),qr X pins σ H s->t σ H Q->wpAny (model X.prog X.w) X.A (isTrue e X.env whole) (TP X pins σ Q) X.xe s
theorem PW.pt {X:Cx} {e:Expr} {t:TT} (h:PW X e t):PT X e t:=h _
@[irreducible] def JW (X:Cx) (e:Expr) (t:TT):Prop:=PW X e t
theorem JW.of {X:Cx} {e:Expr} {t:TT} (h:PW X e t):JW X e t:=by unfold JW;exact h
theorem JW.to {X:Cx} {e:Expr} {t:TT} (h:JW X e t):PW X e t:=by unfold JW at h;exact h
theorem JW.pt {X:Cx} {e:Expr} {t:TT} (h:JW X e t):JT X e t:=.of h.to.pt
def PA (X:Cx) (es:List Expr) (t:TA):Prop:=
 ∀(pos:Pos) (pins:List (Addr×Obj)) (s:Shared) (σ:St) (H:Hp) (Q:List V->Hp->Prop),qr X pins σ H s->t σ H Q->wpAny (model X.prog X.w) X.A (spliced (backTo pos (starEach es X.env))) (AP X pins σ Q) X.xe s
@[irreducible] def JA (X:Cx) (es:List Expr) (t:TA):Prop:=PA X es t
theorem JA.of {X:Cx} {es:List Expr} {t:TA} (h:PA X es t):JA X es t:=by unfold JA;exact h
theorem JA.to {X:Cx} {es:List Expr} {t:TA} (h:JA X es t):PA X es t:=by unfold JA at h;exact h
def PS (X:Cx) (st:Stmt) (t:TS):Prop:=
 ∀(pins:List (Addr×Obj)) (s:Shared) (σ:St) (H:Hp) (D:QF),qr X pins σ H s->t D σ H->wpAny (model X.prog X.w) X.A (exec st X.env) (SP X pins D) X.xe s
@[irreducible] def JS (X:Cx) (st:Stmt) (t:TS):Prop:=PS X st t
theorem JS.of {X:Cx} {st:Stmt} {t:TS} (h:PS X st t):JS X st t:=by unfold JS;exact h
theorem JS.to {X:Cx} {st:Stmt} {t:TS} (h:JS X st t):PS X st t:=by unfold JS at h;exact h
def yu (X:Cx) (st:List Stmt) (t:TS):Prop:=
 ∀(pins:List (Addr×Obj)) (s:Shared) (σ:St) (H:Hp) (D:QF),qr X pins σ H s->t D σ H->wpAny (model X.prog X.w) X.A (execs st X.env) (SP X pins D) X.xe s
@[irreducible] def z0 (X:Cx) (st:List Stmt) (t:TS):Prop:=yu X st t
theorem z0.of {X:Cx} {st:List Stmt} {t:TS} (h:yu X st t):z0 X st t:=by unfold z0;exact h
theorem z0.to {X:Cx} {st:List Stmt} {t:TS} (h:z0 X st t):yu X st t:=by unfold z0 at h;exact h
theorem je {α:Type} {t:Sem α} {Q Q':α->Shared->Prop} {M:Model} {A:Around} {E:Value->Shared->Prop} {s:Shared} (h:wpAny M A t Q E s) (hQ:∀a s,Q a s->Q' a s):wpAny M A t Q' E s:=wpAny_mono h hQ λ_ _ x=>x
end L2
namespace L2
open PySem PySem.Spec PyProof.Rows
section
variable {X:Cx}
def jt (i:Nat):TE:=λσ H Q=>∃v,σ[i]?=some (some v)/\Q v H
def tC (v:V):TE:=λ_ H Q=>Q v H
theorem vP {i:Nat} {x:Str} {pos:Pos} (hN:X.N[i]?=some x) (hv:u6 X.env.scope x) (hd:(x==("__debug__":Str))=false:=by decide) (hcd:(x==("__classdict__":Str))=false:=by decide):PE X (.Name x pos) (jt i):=by
 intro pins s σ H Q I h
 obtain⟨v,e,h⟩:=h
 obtain⟨m,hn,hl⟩:=I.loc
 obtain⟨u,r,l⟩:=hl i x v hN e hv
 have fin:EP X pins σ Q u s:=⟨v,H,I,r,h⟩
 rcases l with ⟨hk,hm⟩ | ⟨hk,c,hc,hcell⟩
 . exact wpAny_Name (wpAny_loadName_local I.ok.kind hk hn hm fin) hd
 . rcases hk with hk | hk
   . exact wpAny_Name (wpAny_loadName_cell I.ok.kind hk hc hcell fin) hd
   . exact wpAny_Name (wpAny_loadName_free I.ok.kind hk hc hcell fin hcd) hd
theorem qj {i j pos}:JE X (.Constant (.int i) j pos) (tC (.int i)):=.of (by
 exact λ_ _ _ H _ I h=>wpAny_Constant_int ⟨.int i,H,I.tok _,⟨_,rfl⟩,h⟩)
theorem JM {b j pos}:JE X (.Constant (.bool b) j pos) (tC (.bl b)):=.of (by
 exact λ_ _ _ H _ I h=>Constant_bool ⟨.bl b,H,I,rfl,h⟩)
theorem WT {j pos}:JE X (.Constant .none j pos) (tC .non):=.of (by
 exact λ_ _ _ H _ I h=>Constant_none ⟨.non,H,I,rfl,h⟩)
theorem qx {x j pos}:JE X (.Constant (.str x) j pos) (tC (.str x)):=.of (by
 exact λ_ _ _ H _ I h=>Calls.Constant_str ⟨.str x,H,I.tok _,⟨_,rfl⟩,h⟩)
def Gl (X:Cx) (x:Str):Prop:=X.env.kindOf x=some .globalImplicit
theorem Jq {E:Value->Shared->Prop} {pins:List (Addr×Obj)} {s:Shared} {σ:St} {H:Hp} {x:Str} {u:Value} {pos:Pos} {Q:Value->Shared->Prop} (I:qr X pins σ H s) (hg:Gl X x) (hm:X.mg x=some u) (h:Q u s)
   (hd:(x==("__debug__":Str))=false:=by decide):wpAny (model X.prog X.w) X.A (eval (.Name x pos) X.env) Q E s:=
 Calls.Name_function_global I.ok.kind hg (Calls.loadGlobal_global (by rw[I.ok.glob];exact I.mod.glob.keeps I.bk) hm h) hd
theorem Qz {E:Value->Shared->Prop} {pins:List (Addr×Obj)} {s:Shared} {σ:St} {H:Hp} {x:Str} {u:Value} {pos:Pos} {Q:Value->Shared->Prop} (I:qr X pins σ H s) (hg:Gl X x) (hm:X.mg x=none) (hv:bootBuiltins x=some u) (h:Q u s)
   (hn:x≠"__name__":=by decide) (hd:(x==("__debug__":Str))=false:=by decide):wpAny (model X.prog X.w) X.A (eval (.Name x pos) X.env) Q E s:=by
 obtain⟨mb,h1,h2⟩:=I.mod.blt
 exact Calls.Name_function_global I.ok.kind hg (Calls.loadGlobal_builtin (by rw[I.ok.glob];exact I.mod.glob.keeps I.bk) hm (by rw[I.ok.blt];exact h1.keeps I.bk) ((h2 x hn).trans hv) h) hd
theorem VE {x:Str} {v:V} {u:Value} {pos:Pos} (hg:Gl X x) (hm:X.mg x=some u) (r:qJ v u) (hd:(x==("__debug__":Str))=false:=by decide):PE X (.Name x pos) (tC v):=
 λ_ _ _ H _ I h=>Jq I hg hm ⟨v,H,I,r,h⟩ hd
theorem Jr {x:Str} {v:V} {u:Value} {pos:Pos} (hg:Gl X x) (hm:X.mg x=some u) (r:qJ v u) (hd:(x==("__debug__":Str))=false:=by decide):JE X (.Name x pos) (tC v):=.of (VE hg hm r hd)
theorem Qx {x:Str} {v:V} {u:Value} {pos:Pos} (hg:Gl X x) (hm:X.mg x=none) (hv:bootBuiltins x=some u) (r:qJ v u) (hn:x≠"__name__":=by decide) (hd:(x==("__debug__":Str))=false:=by decide):JE X (.Name x pos) (tC v):=.of (by
 exact λ_ _ _ H _ I h=>Qz I hg hm hv ⟨v,H,I,r,h⟩ hn hd)
variable {a b:Expr} {ta tb:TE} {pos:Pos}
def PC (X:Cx) (op:CmpOp) (a b:Expr) (t:TE):Prop:=
 ∀(pins:List (Addr×Obj)) (s:Shared) (σ:St) (H:Hp) (Q:VK),qr X pins σ H s->t σ H Q->
   wpAny (model X.prog X.w) X.A (eval a X.env) (λv s₁=>wpAny (model X.prog X.w) X.A (eval b X.env) (λu s₂=>wpAny (model X.prog X.w) X.A (compareOp op v u) (EP X pins σ Q) X.xe s₂) X.xe s₁) X.xe s
@[irreducible] def JC (X:Cx) (op:CmpOp) (a b:Expr) (t:TE):Prop:=PC X op a b t
theorem JC.of {X:Cx} {op:CmpOp} {a b:Expr} {t:TE} (h:PC X op a b t):JC X op a b t:=by unfold JC;exact h
theorem JC.to {X:Cx} {op:CmpOp} {a b:Expr} {t:TE} (h:JC X op a b t):PC X op a b t:=by unfold JC at h;exact h
def tB (t:TE):TT:=λσ H Q=>t σ H λx H1=>∃c,x=.bl c/\Q c H1
theorem WS {op:CmpOp} {t:TE} (h:JC X op a b t) (h1:behindInMarks op b=false:=by first | exact nobehind _ (by decide) (by decide) | rfl):JT X (.Compare a [op] [b] pos) (tB t):=.of (by
 have h:=h.to
 intro pins s σ H Q I hw
 refine wpAny_isTrue_Compare1 (je (h pins s σ H _ I hw) λv s1 h1=>je h1 λu s2 h2=>je h2 λc s3 ⟨x,H1,I1,r1,q1⟩=>?_) h1
 obtain⟨d,rfl,q⟩:=q1
 cases r1
 exact wpAny_truthy_bool ⟨H1,I1,q⟩)
theorem jS {e:Expr} {t:TE} (h:JE X e t) (he:∀whole,isTrue e X.env whole=(do let v <-whole;standAt e.pos;holding [v] (truthy v)):=by intro _;rfl):JT X e (tB t):=.of (by
 have h:=h.to
 intro pins s σ H Q I hw
 refine isTrue_plain (je (h pins s σ H _ I hw) λv s1 ⟨x,H1,I1,r1,q1⟩=>?_) (he _)
 obtain⟨d,rfl,q⟩:=q1
 cases r1
 exact wpAny_truthy_bool ⟨H1,I1,q⟩)
variable {tA tB':TT} {rest:List Expr}
def wJ (t u:TT):TT:=λσ H Q=>t σ H λc H1=>if c=true then u σ H1 Q else Q false H1
def tOr (t u:TT):TT:=λσ H Q=>t σ H λc H1=>if c=true then Q true H1 else u σ H1 Q
def Ki (t:TT):TT:=λσ H Q=>t σ H λc H1=>Q (!c) H1
theorem jI (ha:JT X a tA):JW X (.BoolOp .And [a] pos) tA:=.of (by
 have ha:=ha.to
 intro wh pins s σ H Q I h
 refine isTrue_and (je (ha pins s σ H Q I h) λc s1 e=>?_)
 cases c with
 | true=>exact isTrue_and_nil e
 | false=>exact e)
theorem QA (ha:JT X a tA):JW X (.BoolOp .Or [a] pos) tA:=.of (by
 have ha:=ha.to
 intro wh pins s σ H Q I h
 refine isTrue_or (je (ha pins s σ H Q I h) λc s1 e=>?_)
 cases c with
 | false=>exact isTrue_or_nil e
 | true=>exact e)
theorem jR (ha:JT X a tA) (hb:JW X (.BoolOp .And (b::rest) pos) tB'):JW X (.BoolOp .And (a::b::rest) pos) (wJ tA tB'):=.of (by
 have ha:=ha.to
 have hb:=hb.to
 intro wh pins s σ H Q I h
 refine isTrue_and (je (ha pins s σ H _ I h) λc s1 ⟨H1,I1,q1⟩=>?_)
 cases c with
 | true=>exact hb wh pins s1 σ H1 Q I1 q1
 | false=>exact⟨H1,I1,q1⟩)
theorem Jg (ha:JT X a tA) (hb:JW X (.BoolOp .Or (b::rest) pos) tB'):JW X (.BoolOp .Or (a::b::rest) pos) (tOr tA tB'):=.of (by
 have ha:=ha.to
 have hb:=hb.to
 intro wh pins s σ H Q I h
 refine isTrue_or (je (ha pins s σ H _ I h) λc s1 ⟨H1,I1,q1⟩=>?_)
 cases c with
 | true=>exact⟨H1,I1,q1⟩
 | false=>exact hb wh pins s1 σ H1 Q I1 q1)
theorem Qg (ha:JT X a tA):JT X (.UnaryOp .Not a pos) (Ki tA):=.of (by
 have ha:=ha.to
 intro pins s σ H Q I h
 exact isTrue_not (ha pins s σ H (λc H1=>Q (!c) H1) I h))
def Kp (ta tb:TE):TE:=λσ H Q=>ta σ H λx H1=>∃c,x=.bl c/\if c=true then tb σ H1 Q else Q (.bl false) H1
def x9 (ta:TE):TE:=λσ H Q=>ta σ H λx H1=>∃c,x=.bl c/\Q (.bl (!c)) H1
theorem Xj {op} {t:TE} (h:JE X a t):JE X (.BoolOp op [a] pos) t:=.of (by
 have h:=h.to
 exact λpins s σ H Q I hw=>BoolOp_one (h pins s σ H Q I hw))
theorem Xl (ha:JE X a ta) (hb:JE X (.BoolOp .And (b::rest) pos) tb):JE X (.BoolOp .And (a::b::rest) pos) (Kp ta tb):=.of (by
 have ha:=ha.to
 have hb:=hb.to
 intro pins s σ H Q I h
 refine BoolOp_and (je (ha pins s σ H _ I h) λv s1 ⟨x,H1,I1,r1,q1⟩=>?_)
 obtain⟨c,rfl,q1⟩:=q1
 cases r1
 refine wpAny_truthy_bool ?_
 cases c with
 | true=>exact hb pins s1 σ H1 Q I1 q1
 | false=>exact⟨.bl false,H1,I1,rfl,q1⟩)
theorem kJ (ha:JE X a ta):JE X (.UnaryOp .Not a pos) (x9 ta):=.of (by
 have ha:=ha.to
 intro pins s σ H Q I h
 refine UnaryOp_ (je (ha pins s σ H _ I h) λv s1 ⟨x,H1,I1,r1,q1⟩=>?_)
 obtain⟨c,rfl,q1⟩:=q1
 cases r1
 exact not_of (wpAny_truthy_bool ⟨.bl (!c),H1,I1,rfl,q1⟩))
def tIf (t:TT) (ta tb:TE):TE:=λσ H Q=>t σ H λc H1=>if c=true then ta σ H1 Q else tb σ H1 Q
theorem XX {c:Expr} (hc:JT X c tA) (ha:JE X a ta) (hb:JE X b tb):JE X (.IfExp c a b pos) (tIf tA ta tb):=.of (by
 have hc:=hc.to
 have ha:=ha.to
 have hb:=hb.to
 intro pins s σ H Q I h
 refine wpAny_IfExp (je (hc pins s σ H _ I h) λd s1 ⟨H1,I1,q1⟩=>?_)
 cases d with
 | true=>exact ha pins s1 σ H1 Q I1 q1
 | false=>exact hb pins s1 σ H1 Q I1 q1)
end
end L2
namespace L2
open PySem PySem.Spec PyProof.Rows
def SqL (K:PySem.W.Frag) (H:Hp) (a:Addr) (xs:List V):Prop:=
 Rd H a (.lst xs)\/
   ∃(o:Obj) (its:Array Value) (n:Nat),K.lookup a=some o/\o.cls=.type "list"/\o.dict=none/\o.data=.seq its n/\its.size<=sizeLine/\qC xs its.toList
def SqT (K:PySem.W.Frag) (H:Hp) (a:Addr) (xs:List V):Prop:=
 Rd H a (.tup xs)\/
   ∃(o:Obj) (its:Array Value) (n:Nat),K.lookup a=some o/\o.cls=.type "tuple"/\o.data=.seq its n/\its.size<=sizeLine/\qC xs its.toList
def RU:Value->Option V
 | .none=>some .non
 | .bool b=>some (.bl b)
 | .int i _=>some (.int i)
 | .str x _=>some (.str x)
 | .bytes b _=>some (.byt b)
 | .float b _=>some (.flt b)
 | .ref a=>some (.ref a)
 | .type n=>some (.ty n)
 | _=>none
theorem qJ.abs {x:V} {u:Value} (r:qJ x u):RU u=some x:=by
 cases x with
 | non=>cases r;rfl
 | bl _=>cases r;rfl
 | int _=>obtain⟨t,rfl⟩:=r;rfl
 | str _=>obtain⟨t,rfl⟩:=r;rfl
 | byt _=>obtain⟨t,rfl⟩:=r;rfl
 | flt _=>obtain⟨t,rfl⟩:=r;rfl
 | ref _=>cases r;rfl
 | ty _=>cases r;rfl
theorem qJ.inj {x y:V} {u:Value} (r:qJ x u) (q:qJ y u):x=y:=Option.some.inj (r.abs.symm.trans q.abs)
theorem qC.inj:∀{xs ys:List V} {us:List Value},qC xs us->qC ys us->xs=ys
 | _,_,_,.nil,.nil=>rfl
 | _,_,_,.cons r t,.cons r' t'=>by rw[r.inj r',qC.inj t t']
section
variable {X:Cx} {pins:List (Addr×Obj)} {σ:St} {H:Hp} {s:Shared} {a:Addr} {xs ys:List V}
theorem SqL.of {K:PySem.W.Frag} (h:H a=some (.lst xs)):SqL K H a xs:=.inl (.inl h)
theorem SqT.of {K:PySem.W.Frag} (h:H a=some (.tup xs)):SqT K H a xs:=.inl (.inl h)
theorem qr.list (I:qr X pins σ H s) (h:SqL X.K H a xs):∃its:List Value,qC xs its/\PlainL s.heap a its.toArray/\xs.length<=sizeLine:=by
 rcases h with h | ⟨o,its,n,hk,hc,hd,hs,hz,r⟩
 . obtain⟨z,its,n,r,e⟩:=h.ok I.hok
   exact⟨its,r,⟨_,n,e,rfl,rfl,rfl⟩,z⟩
 . refine⟨its.toList,r,⟨o,n,I.kIn a o hk,hc,hd,by simpa using hs⟩,?_⟩
   have e:=r.length
   simp only[Array.length_toList]at e
   omega
theorem qr.tuple (I:qr X pins σ H s) (h:SqT X.K H a xs):∃its:List Value,qC xs its/\IsTup s.heap a its.toArray/\xs.length<=sizeLine:=by
 rcases h with h | ⟨o,its,n,hk,hc,hs,hz,r⟩
 . obtain⟨z,its,r,p⟩:=h.ok I.hok
   exact⟨its,r,p,z⟩
 . refine⟨its.toList,r,⟨o,I.kIn a o hk,hc,n,by simpa using hs⟩,?_⟩
   have e:=r.length
   simp only[Array.length_toList]at e
   omega
theorem qr.list_inj (I:qr X pins σ H s) (h:SqL X.K H a xs) (h':SqL X.K H a ys):xs=ys:=by
 obtain⟨its,r,⟨o,n,e,_,_,d⟩,_⟩:=I.list h
 obtain⟨its',r',⟨o',n',e',_,_,d'⟩,_⟩:=I.list h'
 rw[e]at e';cases e'
 rw[d]at d'
 injection d' with d1 _
 have:its=its':=by simpa using congrArg Array.toList d1
 subst this
 exact r.inj r'
theorem qr.tuple_inj (I:qr X pins σ H s) (h:SqT X.K H a xs) (h':SqT X.K H a ys):xs=ys:=by
 obtain⟨its,r,⟨o,e,_,n,d⟩,_⟩:=I.tuple h
 obtain⟨its',r',⟨o',e',_,n',d'⟩,_⟩:=I.tuple h'
 rw[e]at e';cases e'
 rw[d]at d'
 injection d' with d1 _
 have:its=its':=by simpa using congrArg Array.toList d1
 subst this
 exact r.inj r'
end
abbrev Cx.wish (X:Cx) (E:Value->Shared->Prop):Cx:={X with xe:=E}
abbrev Cx.nox (X:Cx):Cx:=X.wish λ_ _=>False
theorem Cx.Ok.wish {X:Cx} (ok:X.Ok) (E:Value->Shared->Prop):(X.wish E).Ok:=
 ⟨ok.mod,ok.kind,ok.glob,ok.blt,ok.above,ok.inj,ok.has,ok.cab,ok.hd,ok.frames,ok.stk,ok.exf,ok.bs,ok.bsz,ok.noex,ok.exfs,ok.funs,ok.frf⟩
theorem Cx.Ok.unwish {X:Cx} {E:Value->Shared->Prop} (ok:(X.wish E).Ok):X.Ok:=
 ⟨ok.mod,ok.kind,ok.glob,ok.blt,ok.above,ok.inj,ok.has,ok.cab,ok.hd,ok.frames,ok.stk,ok.exf,ok.bs,ok.bsz,ok.noex,ok.exfs,ok.funs,ok.frf⟩
section
variable {X:Cx} {pins:List (Addr×Obj)} {σ:St} {H:Hp} {s:Shared} {E:Value->Shared->Prop}
theorem qr.wish (I:qr X pins σ H s) (E:Value->Shared->Prop):qr (X.wish E) pins σ H s:=⟨I.ok.wish E,I.os,I.bare,I.base,I.loc,I.cell,I.free,I.freeC,I.pin,I.hok,I.len⟩
theorem qr.unwish (I:qr (X.wish E) pins σ H s):qr X pins σ H s:=⟨I.ok.unwish,I.os,I.bare,I.base,I.loc,I.cell,I.free,I.freeC,I.pin,I.hok,I.len⟩
theorem SP.unwish {D:QF} {f:Flow} {s':Shared} (h:SP (X.wish E) pins D f s'):SP X pins D f s':=by
 cases f with
 | next=>obtain⟨σ',H',I,q⟩:=h;exact⟨σ',H',I.unwish,q⟩
 | brk=>obtain⟨σ',H',I,q⟩:=h;exact⟨σ',H',I.unwish,q⟩
 | cont=>obtain⟨σ',H',I,q⟩:=h;exact⟨σ',H',I.unwish,q⟩
 | ret u=>obtain⟨v,σ',H',I,r,q⟩:=h;exact⟨v,σ',H',I.unwish,r,q⟩
theorem yu.nox {st:List Stmt} {t:TS} (h:yu X.nox st t):yu X st t:=λpins s σ H D I hw=>
 wpAny_mono (h pins s σ H D (I.wish _) hw) (λ_ _ q=>q.unwish) λ_ _ z=>False.elim z
end
section
variable {X:Cx} {st:Stmt} {rest:List Stmt} {t u:TS} {e:Expr} {te:TE} {pos:Pos}
def Vi:TS:=λD σ H=>D.nx σ H
def XC (t u:TS):TS:=λD σ H=>t {D with nx:=u D} σ H
theorem qD:z0 X [] Vi:=.of (by
 exact λ_ _ σ H _ I h=>wpAny_execs_nil ⟨σ,H,I,h⟩)
theorem qh (h1:JS X st t) (h2:z0 X rest u):z0 X (st::rest) (XC t u):=.of (by
 have h1:=h1.to
 have h2:=h2.to
 intro pins s σ H D I h
 refine wpAny_execs_cons (je (h1 pins s σ H {D with nx:=u D} I h) λf s1 q=>?_)
 cases f with
 | next=>
   obtain⟨σ',H',I',q⟩:=q
   exact h2 pins s1 σ' H' D I' q
 | ret v=>exact q
 | brk=>exact q
 | cont=>exact q)
theorem ql (h1:JS X st t):z0 X [st] t:=.of (by
 have h1:=h1.to
 intro pins s σ H D I h
 refine wpAny_execs_cons (je (h1 pins s σ H D I h) λf s1 q=>?_)
 cases f with
 | next=>exact wpAny_execs_nil q
 | ret v=>exact q
 | brk=>exact q
 | cont=>exact q)
theorem qr.quiet {pins:List (Addr×Obj)} {σ:St} {H:Hp} {s:Shared} (I:qr X pins σ H s):interactive X.env=false:=by simp [interactive,I.ok.kind]
def wb (te:TE):TS:=λD σ H=>te σ H λ_ H1=>D.nx σ H1
theorem qV (he:JE X e te) (hs:swapsWith e none pos.line X.env=pure false:=by rfl):JS X (.Expr e pos) (wb te):=.of (by
 have he:=he.to
 intro pins s σ H D I h
 exact wpAny_Expr_any (je (he pins s σ H _ I h) λv s1 ⟨x,H1,I1,r1,q1⟩=>⟨σ,H1,I1,q1⟩) I.quiet hs)
def GZ (te:TE):TS:=λD σ H=>te σ H D.rt
theorem qH (he:JE X e te):JS X (.Return (some e) pos) (GZ te):=.of (by
 have he:=he.to
 intro pins s σ H D I h
 exact wpAny_Return_some (je (he pins s σ H _ I h) λv s1 ⟨x,H1,I1,r1,q1⟩=>⟨x,σ,H1,I1,r1,q1⟩))
def yH (c:TT) (t u:TS):TS:=λD σ H=>c σ H λb H1=>if b=true then t D σ H1 else u D σ H1
theorem jd {c:Expr} {a b:List Stmt} {tc:TT} (hc:JT X c tc) (ha:z0 X a t) (hb:z0 X b u):JS X (.If c a b pos) (yH tc t u):=.of (by
 have hc:=hc.to
 have ha:=ha.to
 have hb:=hb.to
 intro pins s σ H D I h
 refine wpAny_If (je (hc pins s σ H _ I h) λd s1 ⟨H1,I1,q1⟩=>?_)
 cases d with
 | true=>exact ha pins s1 σ H1 D I1 q1
 | false=>exact hb pins s1 σ H1 D I1 q1)
def wI:TS:=λ_ _ _=>False
theorem qZ {sts:List Stmt}:z0 X sts wI:=.of (by
 exact λ_ _ _ _ _ _ h=>h.elim)
end
abbrev TG:=V->St->Hp->(St->Hp->Prop)->Prop
abbrev yt:=List V->St->Hp->(St->Hp->Prop)->Prop
def PG (X:Cx) (target:Expr) (t:TG):Prop:=
 ∀(pins:List (Addr×Obj)) (s:Shared) (σ:St) (H:Hp) (v:V) (u:Value) (Q:St->Hp->Prop),qr X pins σ H s->qJ v u->t v σ H Q->
   wpAny (model X.prog X.w) X.A (assign target X.env u) (λ_ s'=>∃σ' H',qr X pins σ' H' s'/\Q σ' H') X.xe s
@[irreducible] def JG (X:Cx) (target:Expr) (t:TG):Prop:=PG X target t
theorem JG.of {X:Cx} {target:Expr} {t:TG} (h:PG X target t):JG X target t:=by unfold JG;exact h
theorem JG.to {X:Cx} {target:Expr} {t:TG} (h:JG X target t):PG X target t:=by unfold JG at h;exact h
def RX (X:Cx) (ts:List Expr) (t:yt):Prop:=
 ∀(pins:List (Addr×Obj)) (s:Shared) (σ:St) (H:Hp) (vs:List V) (us:List Value) (Q:St->Hp->Prop),qr X pins σ H s->qC vs us->t vs σ H Q->
   wpAny (model X.prog X.w) X.A (assignInOrder ((assignEach ts X.env).map (·.2)) us) (λ_ s'=>∃σ' H',qr X pins σ' H' s'/\Q σ' H') X.xe s
@[irreducible] def yy (X:Cx) (ts:List Expr) (t:yt):Prop:=RX X ts t
theorem yy.of {X:Cx} {ts:List Expr} {t:yt} (h:RX X ts t):yy X ts t:=by unfold yy;exact h
theorem yy.to {X:Cx} {ts:List Expr} {t:yt} (h:yy X ts t):RX X ts t:=by unfold yy at h;exact h
abbrev xZ:=V->V->V->Hp->(Hp->Prop)->Prop
def uT (X:Cx) (t:xZ):Prop:=
 ∀(pins:List (Addr×Obj)) (s:Shared) (σ:St) (H:Hp) (o i v:V) (ov iv u:Value) (Q:Hp->Prop),qr X pins σ H s->qJ o ov->qJ i iv->qJ v u->t o i v H Q->
   wpAny (model X.prog X.w) X.A (setItem ov iv u) (λ_ s'=>∃H',qr X pins σ H' s'/\Q H') X.xe s
section
variable {X:Cx} {pos:Pos}
def Qs (i:Nat):TG:=λv σ H Q=>Q (σ.set i (some v)) H
theorem qF {i:Nat} {x:Str} (hN:X.N.Nodup) (hi:X.N[i]?=some x) (hx:Kb X.env.scope x) (hf:X.fn x=true\/X.env.scope.names.lookup x=some .local:=by first | exact .inl rfl | exact .inr rfl | assumption):JG X (.Name x pos) (Qs i):=.of (by
 intro pins s σ H v u Q I r h
 exact wpAny_assign_Name (ze I hN hi hx r (λs' I'=>⟨_,H,I',h⟩) hf))
def uK:yt:=λvs σ H Q=>vs=[]/\Q σ H
def X0 (t:TG) (u:yt):yt:=λvs σ H Q=>∃v r,vs=v::r/\t v σ H λσ' H'=>u r σ' H' Q
theorem QT:yy X [] uK:=.of (by
 intro pins s σ H vs us Q I r h
 obtain⟨e,h⟩:=h
 subst e
 cases r
 exact assignInOrder_nil ⟨σ,H,I,h⟩)
theorem jq {e:Expr} {es:List Expr} {t:TG} {u:yt} (h1:JG X e t) (h2:yy X es u) (hs:(assignEach (e::es) X.env).map (·.2)=assign e X.env::(assignEach es X.env).map (·.2):=by rfl):yy X (e::es) (X0 t u):=.of (by
 have h1:=h1.to
 have h2:=h2.to
 intro pins s σ H vs us Q I r h
 obtain⟨v,vr,e1,h⟩:=h
 subst e1
 cases r with
 | cons r rr=>
   rw[hs]
   refine assignInOrder_cons (je (h1 pins s σ H _ _ _ I r h) λ_ s1 ⟨σ1,H1,I1,q1⟩=>?_)
   exact h2 pins s1 σ1 H1 _ _ Q I1 rr q1)
def uJ (K:PySem.W.Frag) (n:Nat) (t:yt):TG:=λv σ H Q=>∃a xs,v=.ref a/\SqT K H a xs/\xs.length=n/\t xs σ H Q
theorem JV {es:List Expr} {k:Nat} {t:yt} {n:Nat} (hc:X.calm=true) (h:yy X es t) (hn:(assignEach es X.env).length=n:=by rfl) (hst:(assignEach es X.env).findIdx? (·.1)=none:=by rfl):JG X (.Tuple es k pos) (uJ X.K n t):=.of (by
 have h:=h.to
 intro pins s σ H v u Q I r hw
 obtain⟨a,xs,e1,hq,hl,hw⟩:=hw
 subst e1
 cases r
 obtain⟨its,rv,ht,hz⟩:=I.tuple hq
 refine assign_Tuple_tuple (I.ok.hd hc) ht (by simp [hn,<-hl,rv.length]) hst λh' hx=>?_
 have I1:qr X pins σ H {s with heap:=h'}:=I.kept (t':=s.toks) λb o e=>hx b o (Nat.ne_of_lt (Heap.lt_size e)) e
 exact h pins _ σ H xs _ Q I1 (by simpa using rv) hw)
def Ge (to ti:TE) (t:xZ):TG:=λv σ H Q=>to σ H λo H1=>ti σ H1 λi H2=>t o i v H2 λH3=>Q σ H3
theorem wY {o i:Expr} {to ti:TE} {t:xZ} (ho:PE X o to) (hi:PE X i ti) (hs:uT X t)
   (ha:∀v,assign (.Subscript o i pos) X.env v=(do
     let ov <-holding [v] (eval o X.env)
     let iv <-holding [v,ov] (eval i X.env)
     standAt pos
     holding [v,ov,iv] (setItem ov iv v)
     release [v,ov,iv] []):=by intro _;rfl):PG X (.Subscript o i pos) (Ge to ti t):=by
 intro pins s σ H v u Q I r h
 rw[ha]
 refine wpAny_bind (wpAny_holding (je (ho pins s σ H _ I h) λov s1 ⟨x,H1,I1,r1,q1⟩=>?_))
 refine wpAny_bind (wpAny_holding (je (hi pins s1 σ H1 _ I1 q1) λiv s2 ⟨y,H2,I2,r2,q2⟩=>?_))
 refine wpAny_bind (wpAny_standAt (wpAny_bind (wpAny_holding (je (hs pins s2 σ H2 x y v ov iv u _ I2 r1 r2 r q2) λ_ s3 ⟨H3,I3,q3⟩=>?_))))
 exact wpAny_release ⟨σ,H3,I3,q3⟩
theorem kI {o i:Expr} {to ti:TE} {t:xZ} (ho:JE X o to) (hi:JE X i ti) (hs:uT X t) (ha:∀v,assign (.Subscript o i pos) X.env v=(do
     let ov <-holding [v] (eval o X.env)
     let iv <-holding [v,ov] (eval i X.env)
     standAt pos
     holding [v,ov,iv] (setItem ov iv v)
     release [v,ov,iv] []):=by intro _;rfl):JG X (.Subscript o i pos) (Ge to ti t):=.of (wY ho.to hi.to hs ha)
def Yc (te:TE) (g:TG):TS:=λD σ H=>te σ H λx H1=>g x σ H1 D.nx
theorem Xe {tg e:Expr} {te:TE} {g:TG} (he:JE X e te) (hg:JG X tg g) (hs:swapsWithSole [tg] e pos.line X.env=pure false:=by rfl) (hw:swappedStores [tg] e X.env=pure none:=by rfl) (h1:(assignEach [tg] X.env).map (·.2)=[assign tg X.env]:=by rfl):JS X (.Assign [tg] e pos) (Yc te g):=.of (by
 have he:=he.to
 have hg:=hg.to
 intro pins s σ H D I h
 refine wpAny_Assign_stores (je (he pins s σ H _ I h) λv s1 ⟨x,H1,I1,r1,q1⟩=>?_) hs hw
 rw[h1]
 exact je (hg pins s1 σ H1 x v _ I1 r1 q1) λ_ s2 q=>q)
theorem qt {i:Nat} {x:Str} {e:Expr} {te:TE} {pos':Pos} (hN:X.N.Nodup) (hi:X.N[i]?=some x) (hx:Kb X.env.scope x) (he:JE X e te) (hs:swapsWith e (some (.Name x pos')) pos.line X.env=pure false:=by rfl) (hf:X.fn x=true\/X.env.scope.names.lookup x=some .local:=by first | exact .inl rfl | exact .inr rfl | assumption):JS X (.Assign [.Name x pos'] e pos) (Yc te (Qs i)):=.of (by
 have he:=he.to
 intro pins s σ H D I h
 refine wpAny_Assign_Name (je (he pins s σ H _ I h) λv s1 ⟨y,H1,I1,r1,q1⟩=>?_) hs
 exact ze I1 hN hi hx r1 (λs2 I2=>⟨_,H1,I2,q1⟩) hf)
end
section
variable {X:Cx} {pos:Pos}
def vg (c:TT) (tb:TS):TS:=λD σ H=>∃W:Nat->St->Hp->Prop,(∃m,W m σ H)/\∀m σ H,W m σ H->
 c σ H λb H1=>if b=true then ∃N:St->Hp->Prop,(∀σ' H',N σ' H'->∃m',m' < m/\W m' σ' H')/\tb {D with nx:=N,ct:=N,bk:=D.nx} σ H1 else D.nx σ H1
theorem zI {c:Expr} {body:List Stmt} {tc:TT} {tb:TS} (hp:PassesOwn (model X.prog X.w) X.A X.env X.xe) (hc:JT X c tc) (hb:z0 X body tb):JS X (.While c body [] pos) (vg tc tb):=.of (by
 have hc:=hc.to
 have hb:=hb.to
 intro pins s σ H D I h
 obtain⟨W,⟨m0,w0⟩,turn⟩:=h
 refine wpAny_While (codeAny_whileLoop (λn s'=>∃σ' H',qr X pins σ' H' s'/\W n σ' H') ?_ m0 ⟨σ,H,I,w0⟩)
 rintro n s1 ⟨σ1,H1,I1,w1⟩
 refine wpAny_passesOwn hp (je (hc pins s1 σ1 H1 _ I1 (turn n σ1 H1 w1)) λb s2 ⟨H2,I2,q2⟩=>?_)
 cases b with
 | true=>
   obtain⟨N,hN,q2⟩:=q2
   rw[if_pos rfl]
   refine wpAny_passesOwn hp (je (hb pins s2 σ1 H2 _ I2 q2) λf s3 q3=>?_)
   cases f with
   | next=>
     obtain⟨σ3,H3,I3,n3⟩:=q3
     obtain⟨m',hm,w3⟩:=hN σ3 H3 n3
     exact⟨m',hm,σ3,H3,I3,w3⟩
   | cont=>
     obtain⟨σ3,H3,I3,n3⟩:=q3
     obtain⟨m',hm,w3⟩:=hN σ3 H3 n3
     exact⟨m',hm,σ3,H3,I3,w3⟩
   | brk=>exact q3
   | ret v=>exact q3
 | false=>
   rw[if_neg Bool.false_ne_true]
   exact wpAny_execs_nil ⟨σ1,H2,I2,q2⟩)
end
structure It where
 go:Nat->Hp->Prop
 yld:Nat->Hp->V->Hp->Prop
 stop:Nat->Hp->Prop
def JY (X:Cx) (pins:List (Addr×Obj)) (H:Hp) (b:Addr):Prop:=
 H b=none/\b≠X.env.locals/\b∉X.fs/\(b∈X.ex\/X.s₀.heap.objs.size<=b)/\(∀x c,X.env.cells.lookup x=some c->c≠b)/\∀p∈X.pn++pins,p.1≠b
theorem qr.fpOk {X:Cx} {pins:List (Addr×Obj)} {σ:St} {H H':Hp} {s:Shared} {b:Addr} (I:qr X pins σ H s) (hb:s.heap.objs.size<=b) (hn:H' b=none):JY X pins H' b:=by
 refine⟨hn,Nat.ne_of_gt (Nat.lt_of_lt_of_le I.lt hb),I.nofs hb,.inr (Nat.le_trans I.sz hb),λx c e z=>?_,λp hp z=>?_⟩
 . obtain⟨v,q⟩:=I.cell x c e
   exact absurd (Nat.lt_of_lt_of_le q.lt (by rw[z];exact hb)) (Nat.lt_irrefl _)
 . exact absurd (Nat.lt_of_lt_of_le (Heap.lt_size (I.pin p hp).1) (by rw[z];exact hb)) (Nat.lt_irrefl _)
structure W4 (P:Program) (w:World) (K:PySem.W.Frag) (tg:Expr) (J:It) (fp:List Addr) (it:Addr) (tn:Nat->Heap->Prop):Prop where
 mem:it∈fp
 obj:∀i h,tn i h->∀b∈fp,∃o,h.get? b=some o/\∀v,o.data≠.cell v
 keep:∀i h h',tn i h->(∀b∈fp,∀o,h.get? b=some o->h'.get? b=some o)->tn i h'
 item:∀(X:Cx),X.prog=P->X.w=w->X.K=K->X.calm=true->∀(i:Nat) (pins:List (Addr×Obj)) (s:Shared) (σ:St) (H:Hp) (E:Value->Shared->Prop),qr X pins σ H s->(∀b∈fp,JY X pins H b)->tn i s.heap->J.go i H->
   wpAny (model P w) X.A (pyNext (.ref it)) (λr s1=>∃u,r=some u/\
     wpAny (model P w) X.A (letOwnedTupleGo tg (.ref it) u) (λ_ s2=>∃x H',qr X pins σ H' s2/\qJ x u/\J.yld i H x H'/\tn (i+1) s2.heap/\∀b∈fp,H' b=none) E s1) E s
 done:∀(X:Cx),X.prog=P->X.w=w->X.K=K->X.calm=true->∀(i:Nat) (pins:List (Addr×Obj)) (s:Shared) (σ:St) (H:Hp) (E:Value->Shared->Prop),qr X pins σ H s->(∀b∈fp,JY X pins H b)->tn i s.heap->J.stop i H->
   wpAny (model P w) X.A (pyNext (.ref it)) (λr s1=>r=none/\qr X pins σ H s1) E s
 self:∀(A:Around) (i:Nat) (s:Shared) (Q:Value->Shared->Prop) (E:Value->Shared->Prop),tn i s.heap->Q (.ref it) s->wpAny (model P w) A (pyIter (.ref it)) Q E s
abbrev TI:=St->Hp->(It->Hp->Prop)->Prop
def PIE (X:Cx) (pins:List (Addr×Obj)) (σ:St) (tg:Expr) (R:It->Hp->Prop) (itv:Value) (s2:Shared):Prop:=
 ∃(it:Addr) (fp:List Addr) (tn:Nat->Heap->Prop) (J:It) (H':Hp),itv=.ref it/\qr X pins σ H' s2/\W4 X.prog X.w X.K tg J fp it tn/\tn 0 s2.heap/\(∀b∈fp,JY X pins H' b)/\R J H'
def PI (X:Cx) (tg iter:Expr) (wi:TI):Prop:=
 ∀(pins:List (Addr×Obj)) (s:Shared) (σ:St) (H:Hp) (R:It->Hp->Prop),qr X pins σ H s->wi σ H R->
   wpAny (model X.prog X.w) X.A (eval iter X.env) (λv s1=>wpAny (model X.prog X.w) X.A (pyIter v) (PIE X pins σ tg R) X.xe s1) X.xe s
@[irreducible] def JI (X:Cx) (tg iter:Expr) (wi:TI):Prop:=PI X tg iter wi
theorem JI.of {X:Cx} {tg iter:Expr} {wi:TI} (h:PI X tg iter wi):JI X tg iter wi:=by unfold JI;exact h
theorem JI.to {X:Cx} {tg iter:Expr} {wi:TI} (h:JI X tg iter wi):PI X tg iter wi:=by unfold JI at h;exact h
theorem VU {M:Model} {A:Around} {E:Value->Shared->Prop} {s:Shared} {tg:Expr} {it:Addr} {u:Value} {o:Obj} {n:String} {vs:Array Value} {Q:Unit->Shared->Prop} (ho:s.heap.get? it=some o) (hc:o.cls=.type n) (hd:o.data=.fields vs)
   (hn:["enumerate","zip","dict_itemiterator","dict_reverseitemiterator","odict_iterator","itertools.zip_longest","itertools.pairwise"].contains n=false) (hQ:Q () s):wpAny M A (letOwnedTupleGo tg (.ref it) u) Q E s:=by
 unfold letOwnedTupleGo
 cases tg<;>first
   | exact wpAny_pure hQ
   | (cases u<;>first
       | exact wpAny_pure hQ
       | (refine wpAny_bind (wpAny_load ho ?_)
          rw[hc,hd]
          show wpAny M A (if (["enumerate","zip","dict_itemiterator","dict_reverseitemiterator","odict_iterator","itertools.zip_longest","itertools.pairwise"].contains n&&vs[0]?==some (rawInt _))=true then _ else _) Q E s
          rw[if_neg (by intro h;rw[hn,Bool.false_and]at h;cases h)]
          exact wpAny_pure hQ))
def Kd (K:PySem.W.Frag) (a:Addr):It:=
 ⟨λi H=>∃xs x,SqL K H a xs/\xs[i]?=some x,λi H x H'=>H'=H/\∀xs,SqL K H a xs->xs[i]?=some x,λi H=>∃xs,SqL K H a xs/\xs.length<=i⟩
def Kc (K:PySem.W.Frag) (a:Addr):It:=
 ⟨λi H=>∃xs x,SqT K H a xs/\xs[i]?=some x,λi H x H'=>H'=H/\∀xs,SqT K H a xs->xs[i]?=some x,λi H=>∃xs,SqT K H a xs/\xs.length<=i⟩
def uV (lo:Int) (n:Nat):It:=⟨λi _=>i < n,λi H x H'=>H'=H/\x=.int (lo+i),λi _=>n<=i⟩
theorem Ub {P:Program} {w:World} {K:PySem.W.Frag} {tg:Expr} (a it:Addr):W4 P w K tg (Kd K a) [it] it (λi h=>h.IsListIter it a i) where
 mem:=by simp
 obj:=λi h st b hb=>by
   have e:b=it:=by simpa using hb
   subst e
   obtain⟨o,e,c,d⟩:=st
   exact⟨o,e,λv z=>by rw[d]at z;cases z⟩
 keep:=λi h h' st k=>st.at λo e=>k it (by simp) o e
 item:=by
   intro X hP hw hK hc i pins s σ H E I hf st hg
   subst hP hw hK
   obtain⟨xs,x,hq,hx⟩:=hg
   obtain⟨its,rv,p,hz⟩:=I.list hq
   obtain⟨u,hu,ru⟩:=rv.get hx
   obtain⟨f0,f1,f2,f3,f4,f5⟩:=hf it (by simp)
   refine wpAny_pyNext_list_item st p.isList (x:=u) (by simpa using hu) λh' st' sb=>?_
   have I1:qr X pins σ H {s with heap:=h'}:=I.turned (t':=s.toks) (λb o hb e=>(sb.2 b hb).trans e) f0 f1 f3 f4 f5
   obtain⟨o,e,c,d⟩:=id st'
   exact⟨u,rfl,VU (s:={s with heap:=h'}) e c d (by decide) ⟨x,H,I1,ru,⟨rfl,λys hy=>by rw[I.list_inj hy hq];exact hx⟩,st',λb hb=>(hf b hb).1⟩⟩
 done:=by
   intro X hP hw hK hc i pins s σ H E I hf st hg
   subst hP hw hK
   obtain⟨xs,hq,hx⟩:=hg
   obtain⟨its,rv,p,hz⟩:=I.list hq
   obtain⟨f0,f1,f2,f3,f4,f5⟩:=hf it (by simp)
   have hl:=rv.length
   exact wpAny_pyNext_list_end (I.ok.hd hc) st p.isList (by simp;omega) λh' eb=>⟨rfl,I.turned (t':=s.toks) (λb o hb e=>eb b o hb e) f0 f1 f3 f4 f5⟩
 self:=λ_ _ _ _ _ st h=>wpAny_pyIter_listiter st h
theorem Ws {P:Program} {w:World} {K:PySem.W.Frag} {tg:Expr} (a it:Addr):W4 P w K tg (Kc K a) [it] it (λi h=>h.IsTupleIter it a i) where
 mem:=by simp
 obj:=λi h st b hb=>by
   have e:b=it:=by simpa using hb
   subst e
   obtain⟨o,e,c,d⟩:=st
   exact⟨o,e,λv z=>by rw[d]at z;cases z⟩
 keep:=λi h h' st k=>st.at λo e=>k it (by simp) o e
 item:=by
   intro X hP hw hK hc i pins s σ H E I hf st hg
   subst hP hw hK
   obtain⟨xs,x,hq,hx⟩:=hg
   obtain⟨its,rv,p,hz⟩:=I.tuple hq
   obtain⟨u,hu,ru⟩:=rv.get hx
   obtain⟨f0,f1,f2,f3,f4,f5⟩:=hf it (by simp)
   refine wpAny_pyNext_tuple_item st (show s.heap.IsTuple a its.toArray from p) (x:=u) (by simpa using hu) λh' st' sb=>?_
   have I1:qr X pins σ H {s with heap:=h'}:=I.turned (t':=s.toks) (λb o hb e=>(sb.2 b hb).trans e) f0 f1 f3 f4 f5
   obtain⟨o,e,c,d⟩:=id st'
   exact⟨u,rfl,VU (s:={s with heap:=h'}) e c d (by decide) ⟨x,H,I1,ru,⟨rfl,λys hy=>by rw[I.tuple_inj hy hq];exact hx⟩,st',λb hb=>(hf b hb).1⟩⟩
 done:=by
   intro X hP hw hK hc i pins s σ H E I hf st hg
   subst hP hw hK
   obtain⟨xs,hq,hx⟩:=hg
   obtain⟨its,rv,p,hz⟩:=I.tuple hq
   obtain⟨f0,f1,f2,f3,f4,f5⟩:=hf it (by simp)
   have hl:=rv.length
   exact wpAny_pyNext_tuple_end (I.ok.hd hc) st (show s.heap.IsTuple a its.toArray from p) (by simp;omega) λh' eb=>⟨rfl,I.turned (t':=s.toks) (λb o hb e=>eb b o hb e) f0 f1 f3 f4 f5⟩
 self:=λ_ _ _ _ _ st h=>wpAny_pyIter_tupleiter st h
theorem Wt {P:Program} {w:World} {K:PySem.W.Frag} {tg:Expr} (it:Addr) (lo:Int) (n:Nat):W4 P w K tg (uV lo n) [it] it (λi h=>IsRangeIter h it (lo+(i:Nat)*1) ((n:Int) - (i:Nat)) 1) where
 mem:=by simp
 obj:=λi h st b hb=>by
   have e:b=it:=by simpa using hb
   subst e
   exact⟨_,st,λv z=>by
     have z':Data.fields _=Data.cell v:=z
     cases z'⟩
 keep:=λi h h' st k=>k it (by simp) _ st
 item:=by
   intro X hP hw hK hc i pins s σ H E I hf st hg
   subst hP hw hK
   obtain⟨f0,f1,f2,f3,f4,f5⟩:=hf it (by simp)
   have W:=Walks.range (prog:=X.prog) (w:=X.w) (I.ok.hd hc) it lo 1 n
   refine W.item i s _ _ hg st λv h' tk hv st' kk=>?_
   obtain⟨t,rfl⟩:=hv
   have I1:qr X pins σ H {s with heap:=h',toks:=tk}:=I.turned (λb o hb e=>kk b o (by simpa using hb) e) f0 f1 f3 f4 f5
   refine⟨_,rfl,VU (s:={s with heap:=h',toks:=tk}) (n:="range_iterator") st' rfl rfl (by decide) ⟨.int (lo+i),H,I1,⟨t,?_⟩,⟨rfl,rfl⟩,st',λb hb=>(hf b hb).1⟩⟩
   rw[Int.mul_one]
 done:=by
   intro X hP hw hK hc i pins s σ H E I hf st hg
   subst hP hw hK
   obtain⟨f0,f1,f2,f3,f4,f5⟩:=hf it (by simp)
   exact wpAny_pyNext_range_end (I.ok.hd hc) st (by have:n<=i:=hg;omega) λh' eb=>⟨rfl,I.turned (t':=s.toks) (λb o hb e=>eb b o hb e) f0 f1 f3 f4 f5⟩
 self:=λ_ _ _ _ _ st h=>wpAny_pyIter_rangeiter st h
end L2
namespace L2
open PySem PySem.Spec PyProof.Rows
section
variable {X:Cx} {tg:Expr}
def Gc (K:PySem.W.Frag) (tl:TE):TI:=λσ H R=>tl σ H λx H1=>∃a,x=.ref a/\(∃xs,SqL K H1 a xs)/\R (Kd K a) H1
def RQ (K:PySem.W.Frag) (tl:TE):TI:=λσ H R=>tl σ H λx H1=>∃a,x=.ref a/\(∃xs,SqT K H1 a xs)/\R (Kc K a) H1
theorem jW {l:Expr} {tl:TE} (hl:JE X l tl):JI X tg l (Gc X.K tl):=.of (by
 have hl:=hl.to
 intro pins s σ H R I h
 refine je (hl pins s σ H _ I h) λv s1 ⟨x,H1,I1,r1,q1⟩=>?_
 obtain⟨a,e,⟨xs,hq⟩,q⟩:=q1
 subst e
 cases r1
 obtain⟨its,rv,p,hz⟩:=I1.list hq
 refine wpAny_pyIter_list p.isList ?_
 refine⟨s1.heap.objs.size,[s1.heap.objs.size],_,_,H1,rfl,I1.kept (t':=s1.toks) λb o e=>Heap.get?_push_of_some _ e,Ub a _,⟨_,Heap.get?_push_size _ rfl,rfl,rfl⟩,λb hb=>?_,q⟩
 have e:b=s1.heap.objs.size:=by simpa using hb
 subst e
 exact I1.fpOk (Nat.le_refl _) (I1.hok.fresh (Nat.le_refl _)))
theorem kG {l:Expr} {tl:TE} (hl:JE X l tl):JI X tg l (RQ X.K tl):=.of (by
 have hl:=hl.to
 intro pins s σ H R I h
 refine je (hl pins s σ H _ I h) λv s1 ⟨x,H1,I1,r1,q1⟩=>?_
 obtain⟨a,e,⟨xs,hq⟩,q⟩:=q1
 subst e
 cases r1
 obtain⟨its,rv,p,hz⟩:=I1.tuple hq
 refine wpAny_pyIter_tuple (show s1.heap.IsTuple a its.toArray from p) ?_
 refine⟨s1.heap.objs.size,[s1.heap.objs.size],_,_,H1,rfl,I1.kept (t':=s1.toks) λb o e=>Heap.get?_push_of_some _ e,Ws a _,⟨_,Heap.get?_push_size _ rfl,rfl,rfl⟩,λb hb=>?_,q⟩
 have e:b=s1.heap.objs.size:=by simpa using hb
 subst e
 exact I1.fpOk (Nat.le_refl _) (I1.hok.fresh (Nat.le_refl _)))
theorem vJ {pins:List (Addr×Obj)} {σ:St} {H:Hp} {s:Shared} {R:It->Hp->Prop} {E:Value->Shared->Prop} {lo hi:Int} {t u v:Tok} {tk:Nat} (I:qr X pins σ H s) (h1:-(2^62)<=lo) (h2:lo < 2^62) (h3:-(2^62)<=hi) (h4:hi < 2^62)
   (q:R (uV lo (hi - lo).toNat) H):wpAny (model X.prog X.w) X.A (pyIter (.ref s.heap.objs.size)) (PIE X pins σ tg R) E {s with heap:=s.heap.push {cls:=.type "range",data:=.fields #[.int lo t,.int hi u,.int 1 v]},toks:=tk}:=by
 refine wpAny_pyIter_range (IsRange.new ..) (small_one h1 h2 h3 h4) ?_
 have I1:qr X pins σ H {s with heap:=s.heap.push {cls:=.type "range",data:=.fields #[.int lo t,.int hi u,.int 1 v]},toks:=tk}:=I.kept λb o e=>Heap.get?_push_of_some _ e
 refine⟨(s.heap.push {cls:=.type "range",data:=.fields #[.int lo t,.int hi u,.int 1 v]}).objs.size,[(s.heap.push {cls:=.type "range",data:=.fields #[.int lo t,.int hi u,.int 1 v]}).objs.size],_,_,H,rfl,
   I1.kept (t':=tk) λb o e=>Heap.get?_push_of_some _ e,Wt _ lo (hi - lo).toNat,?_,λb hb=>?_,q⟩
 . have e1:lo+((0:Nat):Int)*1=lo:=by simp
   have e2:(((hi - lo).toNat:Nat):Int) - ((0:Nat):Int)=Builtin.Range.rangeSize lo hi 1:=by rw[rangeSize_one];split<;>omega
   show IsRangeIter _ _ (lo+((0:Nat):Int)*1) ((((hi - lo).toNat:Nat):Int) - ((0:Nat):Int)) 1
   rw[e1,e2]
   exact Heap.get?_push_size _ rfl
 . have e:b=(s.heap.push {cls:=.type "range",data:=.fields #[.int lo t,.int hi u,.int 1 v]}).objs.size:=by simpa using hb
   subst e
   exact I1.fpOk (Nat.le_refl _) (I1.hok.fresh (Nat.le_refl _))
def Gb (ta:TA):TI:=λσ H R=>ta σ H λvs H1=>∃j:Int,vs=[.int j]/\-(2^62)<=j/\j < 2^62/\R (uV 0 j.toNat) H1
theorem jO {a:Expr} {ta:TA} {p pos:Pos} (hg:Gl X "range") (hm:X.mg "range"=none) (ha:JA X [a] ta) (hs:starEach [a] X.env=[(false,eval a X.env)]:=by rfl):JI X tg (.Call (.Name "range" p) [a] [] pos) (Gb ta):=.of (by
 have ha:=ha.to
 intro pins s σ H R I h
 refine Call_ (Qz I hg hm boot_range (PyProof.Rows.callWith_type1 (je (ha pos pins s σ H _ I h) λus s1 ⟨vs,H1,I1,r1,q1⟩=>?_) hs rfl))
 obtain⟨j,e,q1,q2,q⟩:=q1
 subst e
 cases r1 with
 | cons r rr=>
   cases rr
   obtain⟨t,rfl⟩:=r
   exact call_range_1 (vJ I1 (by omega) (by omega) q1 q2 (by simpa using q)))
def G7 (wi:TI) (g:TG) (tb:TS):TS:=λD σ H=>wi σ H λJ H1=>∃W:Nat->Nat->St->Hp->Prop,(∃m,W 0 m σ H1)/\∀i m σ H,W i m σ H->
 (J.stop i H/\D.nx σ H)\/(J.go i H/\∃N:St->Hp->Prop,(∀σ' H',N σ' H'->∃m',m' < m/\W (i+1) m' σ' H')/\∀x H',J.yld i H x H'->g x σ H' λσ2 H2=>tb {D with nx:=N,ct:=N,bk:=D.nx} σ2 H2)
def zt (fp:List Addr) (h:Heap):List (Addr×Obj):=fp.filterMap λb=>(h.get? b).map λo=>(b,o)
theorem QS {fp:List Addr} {h:Heap} {b:Addr} {o:Obj} (hb:b∈fp) (e:h.get? b=some o):(b,o)∈zt fp h:=List.mem_filterMap.mpr ⟨b,hb,by rw[e];rfl⟩
theorem UC {fp:List Addr} {h:Heap} {p:Addr×Obj} (hp:p∈zt fp h):p.1∈fp/\h.get? p.1=some p.2:=by
 obtain⟨b,hb,e⟩:=List.mem_filterMap.mp hp
 cases q:h.get? b with
 | none=>rw[q]at e;cases e
 | some o=>
   rw[q]at e
   have e':(b,o)=p:=Option.some.inj e
   subst e'
   exact⟨hb,q⟩
theorem qr.pinned {pins:List (Addr×Obj)} {σ:St} {H:Hp} {s:Shared} {fp:List Addr} (I:qr X pins σ H s) (hf:∀b∈fp,JY X pins H b) (ho:∀b∈fp,∃o,s.heap.get? b=some o/\∀v,o.data≠.cell v):qr X (pins++zt fp s.heap) σ H s:=
 I.pins_of λp hp=>(List.mem_append.mp hp).elim (λz=>I.pin p (List.mem_append_right _ z)) λz=>by
   obtain⟨hb,e⟩:=UC z
   obtain⟨f0,f1,f2,_⟩:=hf p.1 hb
   obtain⟨o,e',d⟩:=ho p.1 hb
   rw[e]at e';cases e'
   exact⟨e,f0,f1,f2,d⟩
theorem qr.unpinned {pins pl:List (Addr×Obj)} {σ:St} {H:Hp} {s:Shared} (I:qr X (pins++pl) σ H s):qr X pins σ H s:=I.pins_of λp hp=>I.pin p (List.mem_append_right _ (List.mem_append_left _ hp))
theorem j0 {iter:Expr} {body:List Stmt} {wi:TI} {g:TG} {tb:TS} {pos:Pos} (hp:PassesOwn (model X.prog X.w) X.A X.env X.xe) (hc:X.calm=true) (hi:JI X tg iter wi) (hg:JG X tg g) (hb:z0 X body tb) (hs:∀x,foldedSetIterable iter X.env x=pure x:=by intro _;rfl):JS X (.For tg iter body [] pos) (G7 wi g tb):=.of (by
 have hi:=hi.to
 have hg:=hg.to
 have hb:=hb.to
 intro pins s σ H D I h
 refine wpAny_For (je (hi pins s σ H _ I h) λv s1 h1=>je h1 λitv s2 h2=>?_) hs
 obtain⟨it,fp,tn,J,H2,e,I2,T,st2,f2,W,⟨m0,w0⟩,turn⟩:=h2
 subst e
 have stat:∀{H':Hp},(∀b∈fp,H' b=none)->∀b∈fp,JY X pins H' b:=λhn b hb=>⟨hn b hb,(f2 b hb).2⟩
 refine codeAny_forLoop_any (λn s'=>∃i σ' H',qr X pins σ' H' s'/\tn i s'.heap/\(∀b∈fp,H' b=none)/\W i n σ' H') ?_ m0 ⟨0,σ,H2,I2,st2,λb hb=>(f2 b hb).1,w0⟩
 rintro n s3 ⟨i,σ3,H3,I3,st3,fr3,w3⟩
 rcases turn i n σ3 H3 w3 with ⟨stop,qn⟩ | ⟨go,N,hN,step⟩
 . refine wpAny_passesOwn hp (je (T.done X rfl rfl rfl hc i pins s3 σ3 H3 X.xe I3 (stat fr3) st3 stop) λr s4 ⟨hr,I4⟩=>?_)
   subst hr
   exact wpAny_execs_nil ⟨σ3,H3,I4,qn⟩
 . refine wpAny_passesOwn hp (je (T.item X rfl rfl rfl hc i pins s3 σ3 H3 X.xe I3 (stat fr3) st3 go) λr s4 ⟨u,hr,h4⟩=>?_)
   subst hr
   refine wpAny_passesOwn hp (je h4 λ_ s5 ⟨x,H5,I5,r5,y5,st5,fr5⟩=>?_)
   have I5':=I5.pinned (stat fr5) (T.obj _ _ st5)
   refine wpAny_passesOwn hp (je (hg _ s5 σ3 H5 x u _ I5' r5 (step x H5 y5)) λ_ s6 ⟨σ6,H6,I6,q6⟩=>?_)
   refine wpAny_passesOwn hp (je (hb _ s6 σ6 H6 _ I6 q6) λf s7 q7=>?_)
   have again:∀{σ7:St} {H7:Hp},qr X (pins++zt fp s5.heap) σ7 H7 s7->N σ7 H7->∃m,m < n/\∃i σ' H',qr X pins σ' H' s7/\tn i s7.heap/\(∀b∈fp,H' b=none)/\W i m σ' H':=λ{σ7 H7} I7 n7=>by
     obtain⟨m',hm,w7⟩:=hN σ7 H7 n7
     refine⟨m',hm,i+1,σ7,H7,I7.unpinned,T.keep _ _ _ st5 λb hb o e=>(I7.pin (b,o) (List.mem_append_right _ (List.mem_append_right _ (QS hb e)))).1,λb hb=>?_,w7⟩
     obtain⟨o,e,d⟩:=T.obj _ _ st5 b hb
     exact(I7.pin (b,o) (List.mem_append_right _ (List.mem_append_right _ (QS hb e)))).2.1
   cases f with
   | next=>obtain⟨σ7,H7,I7,n7⟩:=q7;exact again I7 n7
   | cont=>obtain⟨σ7,H7,I7,n7⟩:=q7;exact again I7 n7
   | brk=>obtain⟨σ7,H7,I7,q7⟩:=q7;exact⟨σ7,H7,I7.unpinned,q7⟩
   | ret v=>obtain⟨x7,σ7,H7,I7,r7,q7⟩:=q7;exact⟨x7,σ7,H7,I7.unpinned,r7,q7⟩)
end
theorem QM {K:PySem.W.Frag} {a:Addr} {xs:List V} {g:TG} {tb:TS} {D:QF} {σ:St} {H:Hp} (Pv:Nat->St->Hp->Prop) (h0:Pv 0 σ H) (hl:∀i σ H,i<=xs.length->Pv i σ H->SqL K H a xs)
   (hs:∀i x σ H,xs[i]?=some x->Pv i σ H->g x σ H λσ2 H2=>tb {D with nx:=Pv (i+1),ct:=Pv (i+1),bk:=D.nx} σ2 H2) (hd:∀σ H,Pv xs.length σ H->D.nx σ H):
   ∃W:Nat->Nat->St->Hp->Prop,(∃m,W 0 m σ H)/\∀i m σ H,W i m σ H->
    ((Kd K a).stop i H/\D.nx σ H)\/((Kd K a).go i H/\∃N:St->Hp->Prop,(∀σ' H',N σ' H'->∃m',m' < m/\W (i+1) m' σ' H')/\∀x H',(Kd K a).yld i H x H'->g x σ H' λσ2 H2=>tb {D with nx:=N,ct:=N,bk:=D.nx} σ2 H2):=by
 refine⟨λi m σ H=>m=xs.length - i/\i<=xs.length/\Pv i σ H,⟨xs.length,by simp,Nat.zero_le _,h0⟩,?_⟩
 rintro i m σ H ⟨rfl,hi,p⟩
 have q:=hl i σ H hi p
 by_cases hlt:i < xs.length
 . refine .inr ⟨⟨xs,xs[i],q,by simp [hlt]⟩,Pv (i+1),λσ' H' p'=>⟨xs.length - (i+1),by omega,rfl,hlt,p'⟩,λx H' y=>?_⟩
   obtain⟨e,y⟩:=y
   subst e
   exact hs i x σ _ (y xs q) p
 . have e:i=xs.length:=by omega
   subst e
   exact .inl ⟨⟨xs,q,Nat.le_refl _⟩,hd σ H p⟩
theorem xP {K:PySem.W.Frag} {a:Addr} {xs:List V} {g:TG} {tb:TS} {D:QF} {σ:St} {H:Hp} (Pv:Nat->St->Hp->Prop) (h0:Pv 0 σ H) (hl:∀i σ H,i<=xs.length->Pv i σ H->SqT K H a xs)
   (hs:∀i x σ H,xs[i]?=some x->Pv i σ H->g x σ H λσ2 H2=>tb {D with nx:=Pv (i+1),ct:=Pv (i+1),bk:=D.nx} σ2 H2) (hd:∀σ H,Pv xs.length σ H->D.nx σ H):
   ∃W:Nat->Nat->St->Hp->Prop,(∃m,W 0 m σ H)/\∀i m σ H,W i m σ H->
    ((Kc K a).stop i H/\D.nx σ H)\/((Kc K a).go i H/\∃N:St->Hp->Prop,(∀σ' H',N σ' H'->∃m',m' < m/\W (i+1) m' σ' H')/\∀x H',(Kc K a).yld i H x H'->g x σ H' λσ2 H2=>tb {D with nx:=N,ct:=N,bk:=D.nx} σ2 H2):=by
 refine⟨λi m σ H=>m=xs.length - i/\i<=xs.length/\Pv i σ H,⟨xs.length,by simp,Nat.zero_le _,h0⟩,?_⟩
 rintro i m σ H ⟨rfl,hi,p⟩
 have q:=hl i σ H hi p
 by_cases hlt:i < xs.length
 . refine .inr ⟨⟨xs,xs[i],q,by simp [hlt]⟩,Pv (i+1),λσ' H' p'=>⟨xs.length - (i+1),by omega,rfl,hlt,p'⟩,λx H' y=>?_⟩
   obtain⟨e,y⟩:=y
   subst e
   exact hs i x σ _ (y xs q) p
 . have e:i=xs.length:=by omega
   subst e
   exact .inl ⟨⟨xs,q,Nat.le_refl _⟩,hd σ H p⟩
theorem QL {lo:Int} {n:Nat} {g:TG} {tb:TS} {D:QF} {σ:St} {H:Hp} (Pv:Nat->St->Hp->Prop) (h0:Pv 0 σ H)
   (hs:∀i σ H,i < n->Pv i σ H->g (.int (lo+i)) σ H λσ2 H2=>tb {D with nx:=Pv (i+1),ct:=Pv (i+1),bk:=D.nx} σ2 H2) (hd:∀σ H,Pv n σ H->D.nx σ H):
   ∃W:Nat->Nat->St->Hp->Prop,(∃m,W 0 m σ H)/\∀i m σ H,W i m σ H->
    ((uV lo n).stop i H/\D.nx σ H)\/((uV lo n).go i H/\∃N:St->Hp->Prop,(∀σ' H',N σ' H'->∃m',m' < m/\W (i+1) m' σ' H')/\∀x H',(uV lo n).yld i H x H'->g x σ H' λσ2 H2=>tb {D with nx:=N,ct:=N,bk:=D.nx} σ2 H2):=by
 refine⟨λi m σ H=>m=n - i/\i<=n/\Pv i σ H,⟨n,by simp,Nat.zero_le _,h0⟩,?_⟩
 rintro i m σ H ⟨rfl,hi,p⟩
 by_cases hlt:i < n
 . refine .inr ⟨hlt,Pv (i+1),λσ' H' p'=>⟨n - (i+1),by omega,rfl,hlt,p'⟩,λx H' y=>?_⟩
   obtain⟨e,y⟩:=y
   subst e y
   exact hs i σ _ hlt p
 . have e:i=n:=by omega
   subst e
   exact .inl ⟨Nat.le_refl _,hd σ H p⟩
end L2
namespace L2
open PySem PySem.Spec PyProof.Rows
abbrev R2:=V->V->Hp->VK->Prop
def ZH (X:Cx) (f:Value->Value->Sem Value) (r:R2):Prop:=
 ∀(pins:List (Addr×Obj)) (s:Shared) (σ:St) (H:Hp) (x y:V) (v u:Value) (Q:VK),qr X pins σ H s->qJ x v->qJ y u->r x y H Q->
   wpAny (model X.prog X.w) X.A (f v u) (EP X pins σ Q) X.xe s
def RV (X:Cx) (f:Value->Sem Value) (r:V->Hp->VK->Prop):Prop:=
 ∀(pins:List (Addr×Obj)) (s:Shared) (σ:St) (H:Hp) (x:V) (v:Value) (Q:VK),qr X pins σ H s->qJ x v->r x H Q->
   wpAny (model X.prog X.w) X.A (f v) (EP X pins σ Q) X.xe s
def j8 (X:Cx) (f:Value) (r:List V->Hp->VK->Prop):Prop:=
 ∀(pins:List (Addr×Obj)) (s:Shared) (σ:St) (H:Hp) (xs:List V) (us:List Value) (Q:VK),qr X pins σ H s->qC xs us->r xs H Q->
   wpAny (model X.prog X.w) X.A (call f us) (EP X pins σ Q) X.xe s
def Xx (r:R2) (ta tb:TE):TE:=λσ H Q=>ta σ H λx H1=>tb σ H1 λy H2=>r x y H2 Q
def tUn (r:V->Hp->VK->Prop) (ta:TE):TE:=λσ H Q=>ta σ H λx H1=>r x H1 Q
def rI (C:Int->Int->Prop) (g:Int->Int->V):R2:=λx y H Q=>∃i j,x=.int i/\y=.int j/\C i j/\Q (g i j) H
def wz (g:Int->Int->V):R2:=λx y H Q=>∃i j,x=.int i/\y=.int j/\Q (g i j) H
def rU (g:Int->V):V->Hp->VK->Prop:=λx H Q=>∃i,x=.int i/\Q (g i) H
section
variable {X:Cx} {a b c:Expr} {ta tb tc:TE} {pos:Pos}
theorem uR (ha:PE X a ta) (hb:PE X b tb) {pins:List (Addr×Obj)} {s:Shared} {σ:St} {H:Hp} {R:V->V->Hp->Prop} (I:qr X pins σ H s)
   (h:ta σ H λx H1=>tb σ H1 λy H2=>R x y H2) {Q:Value->Shared->Prop} {f:Value->Value->Sem Value}
   (hf:∀v u s2 x y H2,qr X pins σ H2 s2->qJ x v->qJ y u->R x y H2->wpAny (model X.prog X.w) X.A (f v u) Q X.xe s2):
   wpAny (model X.prog X.w) X.A (eval a X.env) (λv s₁=>wpAny (model X.prog X.w) X.A (eval b X.env) (λu s₂=>wpAny (model X.prog X.w) X.A (f v u) Q X.xe s₂) X.xe s₁) X.xe s:=by
 refine je (ha pins s σ H _ I h) λv s1 ⟨x,H1,I1,r1,q1⟩=>?_
 refine je (hb pins s1 σ H1 _ I1 q1) λu s2 ⟨y,H2,I2,r2,q2⟩=>?_
 exact hf v u s2 x y H2 I2 r1 r2 q2
theorem qM {op:Operator} {r:R2} (ho:ZH X (binaryOp op) r) (ha:JE X a ta) (hb:JE X b tb):JE X (.BinOp a op b pos) (Xx r ta tb):=.of (by
 have ha:=ha.to
 have hb:=hb.to
 intro pins s σ H Q I h
 exact wpAny_BinOp (uR ha hb I h λv u s2 x y H2 I2 rx ry q=>ho pins s2 σ H2 x y v u Q I2 rx ry q))
theorem VP {op:UnaryOp} {r:V->Hp->VK->Prop} (ho:RV X (unaryOp op) r) (ha:JE X a ta):JE X (.UnaryOp op a pos) (tUn r ta):=.of (by
 have ha:=ha.to
 intro pins s σ H Q I h
 exact UnaryOp_ (je (ha pins s σ H _ I h) λv s1 ⟨x,H1,I1,r1,q1⟩=>ho pins s1 σ H1 x v Q I1 r1 q1))
theorem KN {f:Value->Value->Sem Value} {C:Int->Int->Prop} {g:Int->Int->Int}
   (rule:∀(i j:Int) (t u:Tok) (s:Shared) (Q:Value->Shared->Prop) (E:Value->Shared->Prop),C i j->Q (.int (g i j) s.toks) {s with toks:=s.toks+1}->wpAny (model X.prog X.w) X.A (f (.int i t) (.int j u)) Q E s):
   ZH X f (rI C λi j=>.int (g i j)):=by
 intro pins s σ H x y v u Q I rx ry h
 obtain⟨i,j,rfl,rfl,hc,q⟩:=h
 obtain⟨t,rfl⟩:=rx
 obtain⟨t',rfl⟩:=ry
 exact rule i j t t' s _ _ hc ⟨.int (g i j),H,I.tok _,⟨_,rfl⟩,q⟩
theorem KM {f:Value->Value->Sem Value} {g:Int->Int->Int}
   (rule:∀(i j:Int) (t u:Tok) (s:Shared) (Q:Value->Shared->Prop) (E:Value->Shared->Prop),Q (.int (g i j) s.toks) {s with toks:=s.toks+1}->wpAny (model X.prog X.w) X.A (f (.int i t) (.int j u)) Q E s):
   ZH X f (wz λi j=>.int (g i j)):=by
 intro pins s σ H x y v u Q I rx ry h
 obtain⟨i,j,rfl,rfl,q⟩:=h
 obtain⟨t,rfl⟩:=rx
 obtain⟨t',rfl⟩:=ry
 exact rule i j t t' s _ _ ⟨.int (g i j),H,I.tok _,⟨_,rfl⟩,q⟩
theorem ue {f:Value->Value->Sem Value} {g:Int->Int->Bool}
   (rule:∀(i j:Int) (t u:Tok) (s:Shared) (Q:Value->Shared->Prop) (E:Value->Shared->Prop),Q (.bool (g i j)) s->wpAny (model X.prog X.w) X.A (f (.int i t) (.int j u)) Q E s):
   ZH X f (wz λi j=>.bl (g i j)):=by
 intro pins s σ H x y v u Q I rx ry h
 obtain⟨i,j,rfl,rfl,q⟩:=h
 obtain⟨t,rfl⟩:=rx
 obtain⟨t',rfl⟩:=ry
 exact rule i j t t' s _ _ ⟨.bl (g i j),H,I,rfl,q⟩
def Na (i j:Int):Prop:=0 < j/\j < 1073741824
def R8 (i j:Int):Prop:=0<=j/\j<=1000000/\i.natAbs < 2^64
def uX (i j:Int):Prop:=(-(2^64) < i/\i < 2^64)\/(-(2^64) < j/\j < 2^64)
theorem uX.ok {i j:Int} (h:uX i j):IntMulOk i j:=by
 rcases h with ⟨h1,h2⟩ | ⟨h1,h2⟩
 . exact .of_left (intBits_le_64 h1 h2)
 . exact .of_right (intBits_le_64 h1 h2)
theorem j4:ZH X (binaryOp .Add) (wz λi j=>.int (i+j)):=KM λ_ _ _ _ _ _ _ q=>add_int q
theorem w9:ZH X (binaryOp .Sub) (wz λi j=>.int (i - j)):=KM λ_ _ _ _ _ _ _ q=>sub_int q
theorem Qq:ZH X (binaryOp .Mult) (rI uX λi j=>.int (i*j)):=KN λ_ _ _ _ _ _ _ hc q=>mul_int q hc.ok
theorem xj:ZH X (binaryOp .FloorDiv) (rI Na λi j=>.int (i / j)):=KN λi j _ _ _ _ _ hc q=>by
 have h1:(0:Int) < j:=hc.1
 have h2:j < 1073741824:=hc.2
 exact floordiv_int (by omega) (by rw[Int.fdiv_eq_ediv_of_nonneg i (by omega)];exact q) (.inl (PyProof.noPylong_small (by omega)))
theorem jQ:ZH X (binaryOp .Mod) (rI (λ_ j=>0 < j) λi j=>.int (i % j)):=KN λi j _ _ _ _ _ hc q=>by
 have h1:(0:Int) < j:=hc
 exact mod_int' (by omega) (by rw[Int.fmod_eq_emod_of_nonneg i (by omega)];exact q)
theorem ua:ZH X (binaryOp .Pow) (rI R8 λi j=>.int (i^j.toNat)):=KN λ_ _ _ _ _ _ _ hc q=>pow_int_small hc.1 hc.2.1 hc.2.2 q
theorem unI {f:Value->Sem Value} {g:Int->Int}
   (rule:∀(i:Int) (t:Tok) (s:Shared) (Q:Value->Shared->Prop) (E:Value->Shared->Prop),Q (.int (g i) s.toks) {s with toks:=s.toks+1}->wpAny (model X.prog X.w) X.A (f (.int i t)) Q E s):
   RV X f (rU λi=>.int (g i)):=by
 intro pins s σ H x v Q I rx h
 obtain⟨i,rfl,q⟩:=h
 obtain⟨t,rfl⟩:=rx
 exact rule i t s _ _ ⟨.int (g i),H,I.tok _,⟨_,rfl⟩,q⟩
theorem YU:RV X (unaryOp .USub) (rU λi=>.int (-i)):=unI λ_ _ _ _ _ q=>neg_int q
end
def Kv:V->V->Bool
 | .non,.non=>true | .non,.int _=>true | .int _,.non=>true | .non,.bl _=>true | .bl _,.non=>true | .non,.str _=>true | .str _,.non=>true
 | .int _,.int _=>true | .bl _,.bl _=>true | .str _,.str _=>true | .byt _,.byt _=>true
 | .int _,.str _=>true | .str _,.int _=>true | .bl _,.str _=>true | .str _,.bl _=>true
 | _,_=>false
def rEq:R2:=λx y H Q=>Kv x y=true/\Q (.bl (decide (x=y))) H
def rNe:R2:=λx y H Q=>Kv x y=true/\Q (.bl (!decide (x=y))) H
theorem V0 {i j:Int}:decide (V.int i=V.int j)=(i==j):=by
 rw[Bool.eq_iff_iff]
 simp
theorem yd {i j:Bool}:decide (V.bl i=V.bl j)=(i==j):=by
 rw[Bool.eq_iff_iff]
 simp
theorem VZ {i j:Str}:decide (V.str i=V.str j)=(i==j):=by
 rw[Bool.eq_iff_iff]
 simp
theorem V1 {i j:Array UInt8}:decide (V.byt i=V.byt j)=(i.toList==j.toList):=by
 rw[Bool.eq_iff_iff]
 cases i
 cases j
 simp
section
variable {X:Cx} {a b c:Expr} {ta tb tc:TE} {pos:Pos}
theorem qU {pins:List (Addr×Obj)} {σ:St} {H:Hp} {s:Shared} {Q:VK} {k k':Bool} (I:qr X pins σ H s) (q:Q (.bl k) H) (e:k=k'):EP X pins σ Q (.bool k') s:=by
 subst e
 exact⟨.bl k,H,I,rfl,q⟩
theorem j6:ZH X (compareOp .Eq) rEq:=by
 intro pins s σ H x y v u Q I rx ry h
 obtain⟨hs,q⟩:=h
 cases x with
 | non=>
   cases rx
   cases y with
   | non=>cases ry;exact PySem.EqNone.eq_none_none (qU I q (by simp))
   | bl j=>cases ry;exact PySem.EqNone.eq_none_bool (qU I q (by simp))
   | int j=>obtain⟨t',rfl⟩:=ry;exact PySem.EqNone.eq_none_int (qU I q (by simp))
   | str j=>obtain⟨t',rfl⟩:=ry;exact PySem.EqNone.eq_none_str (qU I q (by simp))
   | _=>exact absurd (show false=true from hs) Bool.false_ne_true
 | bl i=>
   cases rx
   cases y with
   | non=>cases ry;exact PySem.EqNone.eq_bool_none (qU I q (by simp))
   | bl j=>cases ry;exact eq_bool (qU I q yd)
   | str j=>obtain⟨t',rfl⟩:=ry;exact PySem.EqMixed.eq_bool_str (qU I q (by simp))
   | _=>exact absurd (show false=true from hs) Bool.false_ne_true
 | int i=>
   obtain⟨t,rfl⟩:=rx
   cases y with
   | non=>cases ry;exact PySem.EqNone.eq_int_none (qU I q (by simp))
   | int j=>obtain⟨t',rfl⟩:=ry;exact eq_int (qU I q V0)
   | str j=>obtain⟨t',rfl⟩:=ry;exact PySem.EqMixed.eq_int_str (qU I q (by simp))
   | _=>exact absurd (show false=true from hs) Bool.false_ne_true
 | str i=>
   obtain⟨t,rfl⟩:=rx
   cases y with
   | non=>cases ry;exact PySem.EqNone.eq_str_none (qU I q (by simp))
   | bl j=>cases ry;exact PySem.EqMixed.eq_str_bool (qU I q (by simp))
   | int j=>obtain⟨t',rfl⟩:=ry;exact PySem.EqMixed.eq_str_int (qU I q (by simp))
   | str j=>obtain⟨t',rfl⟩:=ry;exact eq_str (qU I q VZ)
   | _=>exact absurd (show false=true from hs) Bool.false_ne_true
 | byt i=>
   obtain⟨t,rfl⟩:=rx
   cases y with
   | byt j=>obtain⟨t',rfl⟩:=ry;exact PySem.W.eq_bytes (qU I q V1)
   | _=>exact absurd (show false=true from hs) Bool.false_ne_true
 | _=>cases y<;>exact absurd (show false=true from hs) Bool.false_ne_true
theorem vW:ZH X (compareOp .NotEq) rNe:=by
 intro pins s σ H x y v u Q I rx ry h
 obtain⟨hs,q⟩:=h
 cases x with
 | non=>
   cases rx
   cases y with
   | non=>cases ry;exact PySem.EqNone.ne_none_none (qU I q (by simp))
   | bl j=>cases ry;exact PySem.EqNone.ne_none_bool (qU I q (by simp))
   | int j=>obtain⟨t',rfl⟩:=ry;exact PySem.EqNone.ne_none_int (qU I q (by simp))
   | str j=>obtain⟨t',rfl⟩:=ry;exact PySem.EqNone.ne_none_str (qU I q (by simp))
   | _=>exact absurd (show false=true from hs) Bool.false_ne_true
 | bl i=>
   cases rx
   cases y with
   | non=>cases ry;exact PySem.EqNone.ne_bool_none (qU I q (by simp))
   | bl j=>cases ry;exact ne_bool (qU I q (congrArg not yd))
   | str j=>obtain⟨t',rfl⟩:=ry;exact PySem.EqMixed.ne_bool_str (qU I q (by simp))
   | _=>exact absurd (show false=true from hs) Bool.false_ne_true
 | int i=>
   obtain⟨t,rfl⟩:=rx
   cases y with
   | non=>cases ry;exact PySem.EqNone.ne_int_none (qU I q (by simp))
   | int j=>obtain⟨t',rfl⟩:=ry;exact ne_int (qU I q (congrArg not V0))
   | str j=>obtain⟨t',rfl⟩:=ry;exact PySem.EqMixed.ne_int_str (qU I q (by simp))
   | _=>exact absurd (show false=true from hs) Bool.false_ne_true
 | str i=>
   obtain⟨t,rfl⟩:=rx
   cases y with
   | non=>cases ry;exact PySem.EqNone.ne_str_none (qU I q (by simp))
   | bl j=>cases ry;exact PySem.EqMixed.ne_str_bool (qU I q (by simp))
   | int j=>obtain⟨t',rfl⟩:=ry;exact PySem.EqMixed.ne_str_int (qU I q (by simp))
   | str j=>obtain⟨t',rfl⟩:=ry;exact ne_str (qU I q (congrArg not VZ))
   | _=>exact absurd (show false=true from hs) Bool.false_ne_true
 | byt i=>
   obtain⟨t,rfl⟩:=rx
   cases y with
   | byt j=>obtain⟨t',rfl⟩:=ry;exact PySem.W.ne_bytes (qU I q (congrArg not V1))
   | _=>exact absurd (show false=true from hs) Bool.false_ne_true
 | _=>cases y<;>exact absurd (show false=true from hs) Bool.false_ne_true
theorem j3:ZH X (compareOp .Lt) (wz λi j=>.bl (decide (i < j))):=ue λ_ _ _ _ _ _ _ q=>lt_int q
theorem XO:ZH X (compareOp .Gt) (wz λi j=>.bl (decide (j < i))):=ue λ_ _ _ _ _ _ _ q=>gt_int q
theorem vX:ZH X (compareOp .GtE) (wz λi j=>.bl (decide (j<=i))):=ue λ_ _ _ _ _ _ _ q=>ge_int q
theorem Ux:ZH X (compareOp .In) (λx y H Q=>∃i j,x=.str i/\y=.str j/\Q (.bl (!(Builtin.Str.occurrences j i 0 j.length 1).isEmpty)) H):=by
 intro pins s σ H x y v u Q I rx ry h
 obtain⟨i,j,rfl,rfl,q⟩:=h
 obtain⟨t,rfl⟩:=rx
 obtain⟨t',rfl⟩:=ry
 exact in_str (qU I q rfl)
theorem qy (b:Expr) {op:CmpOp} (h:op≠.In:=by decide) (h2:op≠.NotIn:=by decide):behindInMarks op b=false:=by
 have e1:(op==CmpOp.In)=false:=by cases op<;>first | rfl | exact absurd rfl h
 have e2:(op==CmpOp.NotIn)=false:=by cases op<;>first | rfl | exact absurd rfl h2
 cases b<;>simp [behindInMarks,e1,e2]
theorem Qn {op:CmpOp} {r:R2} (ho:ZH X (compareOp op) r) (ha:JE X a ta) (hb:JE X b tb) (hm:behindInMarks op b=false):JE X (.Compare a [op] [b] pos) (Xx r ta tb):=.of (by
 have ha:=ha.to
 have hb:=hb.to
 intro pins s σ H Q I h
 exact wpAny_Compare1 (uR ha hb I h λv u s2 x y H2 I2 rx ry q=>ho pins s2 σ H2 x y v u Q I2 rx ry q) hm)
def Vh (t:TE):TT:=λσ H Q=>t σ H λx H'=>∃k,x=.bl k/\Q k H'
theorem qv {op:CmpOp} {r:R2} (ho:ZH X (compareOp op) r) (ha:JE X a ta) (hb:JE X b tb) (hm:behindInMarks op b=false):JT X (.Compare a [op] [b] pos) (Vh (Xx r ta tb)):=.of (by
 have ha:=ha.to
 have hb:=hb.to
 intro pins s σ H Q I h
 refine wpAny_isTrue_Compare1 (je (ha pins s σ H _ I h) λv s1 ⟨x,H1,I1,r1,q1⟩=>je (hb pins s1 σ H1 _ I1 q1) λu s2 ⟨y,H2,I2,r2,q2⟩=>
   je (ho pins s2 σ H2 x y v u _ I2 r1 r2 q2) λc s3 ⟨z,H3,I3,r3,k,e,q3⟩=>?_) hm
 subst e
 cases r3
 exact wpAny_truthy_bool ⟨H3,I3,q3⟩)
theorem Zz:(sizeLine:Nat) < 2^63:=by rw[sizeLine_eq];decide
theorem zx:ZH X (binaryOp .Add) (λx y H Q=>∃i j,x=.str i/\y=.str j/\i.length+j.length<=sizeLine/\Q (.str (i++j)) H):=by
 intro pins s σ H x y v u Q I rx ry h
 obtain⟨i,j,rfl,rfl,hz,q⟩:=h
 obtain⟨t,rfl⟩:=rx
 obtain⟨t',rfl⟩:=ry
 exact add_str (λt' tk=>⟨.str (i++j),H,I.tok _,⟨_,rfl⟩,q⟩) hz
theorem Qu {x:V} {us:List Value} (r:qC [x] us):∃u,us=[u]/\qJ x u:=by
 cases r with
 | cons r1 r2=>cases r2;exact⟨_,rfl,r1⟩
theorem Ve {x y:V} {us:List Value} (r:qC [x,y] us):∃u w',us=[u,w']/\qJ x u/\qJ y w':=by
 cases r with
 | cons r1 r2=>
   cases r2 with
   | cons r3 r4=>cases r4;exact⟨_,_,rfl,r1,r3⟩
theorem YK (hc:X.calm=true):j8 X (.builtin "max") (λxs H Q=>∃i j,xs=[.int i,.int j]/\Q (.int (if j > i then j else i)) H):=by
 intro pins s σ H xs us Q I r h
 obtain⟨i,j,rfl,q⟩:=h
 obtain⟨u,w',rfl,⟨t,rfl⟩,⟨t',rfl⟩⟩:=Ve r
 refine max_two_ints (I.ok.hd hc) λh' tk k=>⟨_,H,I.kept k,?_,q⟩
 by_cases hj:j > i
 . rw[if_pos hj,if_pos hj];exact⟨_,rfl⟩
 . rw[if_neg hj,if_neg hj];exact⟨_,rfl⟩
theorem U3 (hc:X.calm=true):j8 X (.builtin "min") (λxs H Q=>∃i j,xs=[.int i,.int j]/\Q (.int (if j < i then j else i)) H):=by
 intro pins s σ H xs us Q I r h
 obtain⟨i,j,rfl,q⟩:=h
 obtain⟨u,w',rfl,⟨t,rfl⟩,⟨t',rfl⟩⟩:=Ve r
 refine min_two_ints (I.ok.hd hc) λh' tk k=>⟨_,H,I.kept k,?_,q⟩
 by_cases hj:j < i
 . rw[if_pos hj,if_pos hj];exact⟨_,rfl⟩
 . rw[if_neg hj,if_neg hj];exact⟨_,rfl⟩
theorem ZG:j8 X (.type "int") (λxs H Q=>(∃i,xs=[.int i]/\Q (.int i) H)\/∃k,xs=[.bl k]/\Q (.int (if k then 1 else 0)) H):=by
 intro pins s σ H xs us Q I r h
 rcases h with ⟨i,rfl,q⟩ | ⟨k,rfl,q⟩
 . obtain⟨u,rfl,t,rfl⟩:=Qu r
   exact call_int_int ⟨.int i,H,I,⟨_,rfl⟩,q⟩
 . obtain⟨u,rfl,r1⟩:=Qu r
   cases r1
   exact call_int_bool ⟨.int (if k then 1 else 0),H,I.tok _,⟨_,rfl⟩,q⟩
end
end L2
namespace L2
open PySem PySem.Spec PyProof.Rows
structure W8 (h:Heap) (x dx C:Addr) (mA:Str->Option Value):Prop where
 obj:h.get? x=some (PySem.W.instObj C dx)
 ns:h.Ns1 dx mA
 ne:dx≠x
theorem Zy {h:Heap} {dx:Addr} {mA:Str->Option Value} (n:h.Ns1 dx mA):∃od,h.get? dx=some od/\∀name,PySem.W.lookIn name od=some (mA name):=by
 obtain⟨o,es,ep,ho,hd,hk,_,hm⟩:=n
 refine⟨o,ho,λname=>?_⟩
 have e:=hm name
 unfold nsFind findBy at e
 rw[<-Array.find?_toList]at e
 unfold PySem.W.lookIn
 rw[hd]
 dsimp only
 split
 . rename_i y q
   rw[q]at e
   exact congrArg some e
 . rename_i q
   rw[q]at e
   have a:es.toList.any (·.refKey)=false:=by
     rw[List.any_eq_false]
     intro y hy
     obtain⟨z,t,hkey⟩:=hk y (Array.mem_toList_iff.mp hy)
     simp [DictEntry.refKey,hkey]
   have a':¬es.toList.any (·.refKey)=true:=by rw[a];exact Bool.false_ne_true
   rw[if_neg a']
   exact congrArg some e
theorem W8.look {h:Heap} {x dx C:Addr} {mA:Str->Option Value} (I:W8 h x dx C mA):∃od,PySem.W.InstAt h x (PySem.W.instObj C dx) C (some od)/\∀name,PySem.W.lookIn name od=some (mA name):=
 let ⟨od,ho,hl⟩:=Zy I.ns
 ⟨od,⟨I.obj,rfl,rfl,ho⟩,hl⟩
section
variable {prog:Program} {w:World} {A:Around} {E:Value->Shared->Prop} {s:Shared} {K:PySem.W.Frag} {x dx C f:Addr} {mA:Str->Option Value} {name:Str} {v:Value}
theorem xL {expr:Bool} {Q:Value->Shared->Prop} (X:K.In s.heap) (I:W8 s.heap x dx C mA) (hg:PySem.W.plainGet K C name=true) (hh:PySem.W.hasDictIn K C=true)
   (ha:PySem.W.findIn K (.ref C) name=some none) (hv:mA name=some v) (hv':PySem.W.handedIn v=true) (h:Q v {s with toks:=s.toks+1}):
   wpAny (model prog w) A (getAttr (.ref x) name expr) Q E s:=by
 obtain⟨od,J,hl⟩:=I.look
 exact PySem.W.get_value X J (PySem.W.plainGet_of hg).1 (PySem.W.findObj_own hh ha rfl (by rw[hl,hv])) hv' h
theorem kZ {pl:Sem Bool} {Q:Value×List Value->Shared->Prop} (X:K.In s.heap) (I:W8 s.heap x dx C mA) (hg:PySem.W.plainGet K C name=true)
   (hf:PySem.W.findIn K (.ref C) name=some (some (.ref f))) (ht:PySem.W.isFn K (.ref f)=true) (hv:mA name=none) (h:Q (.ref f,[.ref x]) s):
   wpAny (model prog w) A (getMethod (.ref x) name pl) Q E s:=by
 obtain⟨od,J,hl⟩:=I.look
 exact PySem.W.method_fn X J (PySem.W.plainGet_of hg).1 (PySem.W.plainGet_of hg).2 hf (beq_iff_eq.mp ht) (by show (PySem.W.lookIn name od).map (·.isSome)=some false;rw[hl,hv];rfl) h
theorem yS {ns:List Str} {Q:Unit->Shared->Prop} (X:K.In s.heap) (I:W8 s.heap x dx C mA)
   (hs:PySem.W.findIn K (.ref C) "__setattr__"=some (some (.builtin "object.__setattr__"))) (hp:PySem.W.plainOver K C=true) (ht:PySem.W.takerIn K C name=some none) (hh:PySem.W.hasDictIn K C=true)
   (hw:PySem.Within mA ns) (hsz:ns.length<=sizeLine)
   (h:∀h',W8 h' x dx C (λy=>if y=name then some v else mA y)->Heap.SameBut dx s.heap h'->Q () {s with heap:=h',toks:=s.toks+2}):
   wpAny (model prog w) A (setAttr (.ref x) name v) Q E s:=by
 obtain⟨od,J,hl⟩:=I.look
 refine PySem.W.set_plain X J hs (PySem.W.osa_open (s:={s with toks:=s.toks+1}) (r:=none) X J hp ht λb=>?_)
 obtain⟨cd,hc,hd'⟩:=PySem.W.any_some hh
 have hx:s.heap.get? x=some ⟨.ref C,some dx,.plain,#[]⟩:=I.obj
 refine wpAny_bind (wpAny_pure (wpAny_bind (wpAny_bind (wpAny_loadPart hx (wpAny_bind (PySem.W.Looks.here (s:={s with toks:=s.toks+1}) (PySem.W.looks_clsIn X hc) ?_))))))
 rw[hd']
 refine wpAny_pure (a:=some dx) (wpAny_bind (wpAny_pure (wpAny_bind ?_)))
 refine wpAny_nsSet1 (s:={s with toks:=s.toks+1}) I.ns λh' hn2 hs2=>?_
 obtain⟨oD,esD,epD,hoD,hdD,hcD⟩:=hn2.count (PySem.Within.cons name v hw)
 refine wpAny_bind (wpAny_lookBehind hoD (by rw[hdD];exact pastItsLine_dict (Nat.le_trans hcD (by rw[List.length_cons];omega))) ?_)
 exact wpAny_pure (h _ ⟨(hs2.2 _ (Ne.symm I.ne)).trans I.obj,hn2,I.ne⟩ hs2)
theorem kt {R:Result->Shared->Prop} {vs:List Value} {kw:List (Str×Value)} (X:K.In s.heap) (hm:PySem.W.makesIn K C=true)
   (hi:PySem.W.findIn K (.ref C) "__init__"=some (some (.ref f))) (hf:PySem.W.typeIn K (.ref f)=some (.type "function"))
   (h:codeAny (model prog w) (A.under (.builtin "type.__call__" ⟨.ref C::vs,kw⟩)) (.call (.ref f) ⟨.ref (s.heap.objs.size+1)::vs,kw⟩) (PySem.W.InitBack (s.heap.objs.size+1) R)
     {s with heap:=(s.heap.push PySem.W.emptyDict).push (PySem.W.instObj C s.heap.objs.size)}):
   codeAny (model prog w) A (.call (.ref C) ⟨vs,kw⟩) R s:=by
 obtain⟨hh,g,d,t,os⟩:=s
 exact PySem.W.make_core (PySem.W.makes_of X hm) (PySem.W.looks_findIn X hi) (λself=>PySem.W.bind_fn X self hf) (.inl rfl) h
end
def QR (f:Str) (v:V):List (Str×V)->List (Str×V)
 | []=>[(f,v)]
 | (g,x)::r=>if g=f then (g,v)::r else (g,x)::QR f v r
theorem ZM (f g:Str) (v:V):∀fs:List (Str×V),(QR f v fs).lookup g=if g=f then some v else fs.lookup g
 | []=>by
   show List.lookup g [(f,v)]=_
   by_cases h:g=f
   . have hb:(g==f)=true:=beq_iff_eq.mpr h
     simp only[List.lookup,hb,if_pos h]
   . have hb:(g==f)=false:=beq_eq_false_iff_ne.mpr h
     simp only[List.lookup,hb,if_neg h]
 | (k,x)::r=>by
   have ih:=ZM f g v r
   rw[show QR f v ((k,x)::r)=(if k=f then (k,v)::r else (k,x)::QR f v r) from rfl]
   by_cases hk:k=f
   . rw[if_pos hk]
     by_cases h:g=k
     . have hb:(g==k)=true:=beq_iff_eq.mpr h
       simp only[List.lookup,hb,if_pos (h.trans hk)]
     . have hb:(g==k)=false:=beq_eq_false_iff_ne.mpr h
       simp only[List.lookup,hb,if_neg (λe:g=f=>h (e.trans hk.symm))]
   . rw[if_neg hk]
     by_cases h:g=k
     . have hb:(g==k)=true:=beq_iff_eq.mpr h
       simp only[List.lookup,hb,if_neg (λe:g=f=>hk (h.symm.trans e))]
     . have hb:(g==k)=false:=beq_eq_false_iff_ne.mpr h
       simp only[List.lookup,hb]
       exact ih
theorem ZB (f:Str) (v:V):∀fs:List (Str×V),f∈(QR f v fs).map (·.1)/\∀g,g∈fs.map (·.1)->g∈(QR f v fs).map (·.1)
 | []=>⟨by simp [QR],λg h=>by simp at h⟩
 | (k,x)::r=>by
   obtain⟨i1,i2⟩:=ZB f v r
   rw[show QR f v ((k,x)::r)=(if k=f then (k,v)::r else (k,x)::QR f v r) from rfl]
   by_cases hk:k=f
   . rw[if_pos hk]
     subst hk
     exact⟨by simp,λg h=>by simpa using h⟩
   . rw[if_neg hk]
     refine⟨?_,λg h=>?_⟩
     . rw[List.map_cons]
       exact List.mem_cons_of_mem _ i1
     . rw[List.map_cons]at h ⊢
       rcases List.mem_cons.mp h with e | e
       . exact List.mem_cons.mpr (.inl e)
       . exact List.mem_cons_of_mem _ (i2 g e)
theorem ZN (f:Str) (v:V):∀fs:List (Str×V),(QR f v fs).length<=fs.length+1
 | []=>by simp [QR]
 | (k,x)::r=>by
   have ih:=ZN f v r
   rw[show QR f v ((k,x)::r)=(if k=f then (k,v)::r else (k,x)::QR f v r) from rfl]
   by_cases hk:k=f
   . rw[if_pos hk,List.length_cons,List.length_cons];omega
   . rw[if_neg hk,List.length_cons,List.length_cons];omega
theorem Q6.some_of {v:V} {o:Option Value} (r:Q6 (some v) o):∃u,o=some u/\qJ v u:=by
 cases o with
 | none=>exact(show False from r).elim
 | some u=>exact⟨u,rfl,r⟩
theorem Q6.none_of {o:Option Value} (r:Q6 none o):o=none:=by
 cases o with
 | none=>rfl
 | some u=>exact(show False from r).elim
theorem YG {v:V} {u:Value} (r:qJ v u):PySem.W.handedIn u=true:=by
 cases v with
 | non=>cases (show u=Value.none from r);rfl
 | bl b=>cases (show u=Value.bool b from r);rfl
 | int i=>obtain⟨t,e⟩:=(show ∃t,u=Value.int i t from r);cases e;rfl
 | str x=>obtain⟨t,e⟩:=(show ∃t,u=Value.str x t from r);cases e;rfl
 | byt b=>obtain⟨t,e⟩:=(show ∃t,u=Value.bytes b t from r);cases e;rfl
 | flt b=>obtain⟨t,e⟩:=(show ∃t,u=Value.float b t from r);cases e;rfl
 | ref a=>cases (show u=Value.ref a from r);rfl
 | ty n=>cases (show u=Value.type n from r);rfl
section
variable {P:Program} {w:World} {H H':Hp} {h h':Heap} {a C dx:Addr} {fs fs':List (Str×V)}
theorem Z3 (hok:Q1 P w H h) (e:H a=some (.ins C dx fs)):∃mA,W8 h a dx C mA/\(∀f,Q6 (fs.lookup f) (mA f))/\PySem.Within mA (fs.map (·.1))/\fs.length<=1000/\H dx=some (.own a):=by
 obtain⟨d,z,ne,ob,mA,n,r,q⟩:=(show qB P w H h a (.ins C dx fs) from hok a _ e)
 exact⟨mA,⟨ob,n,ne⟩,r,q,z,d⟩
end
structure Vc (K:PySem.W.Frag) (C:Addr):Prop where
 pg:PySem.W.plainGet K C Str.empty=true
 hd:PySem.W.hasDictIn K C=true
 po:PySem.W.plainOver K C=true
 sa:PySem.W.findIn K (.ref C) "__setattr__"=some (some (.builtin "object.__setattr__"))
theorem Vc.get {K:PySem.W.Frag} {C:Addr} (c:Vc K C) (f:Str):PySem.W.plainGet K C f=true:=c.pg
def j9 (K:PySem.W.Frag) (C:Addr) (f:Str):Prop:=PySem.W.findIn K (.ref C) f=some none
theorem j9.taker {K:PySem.W.Frag} {C:Addr} {f:Str} (n:j9 K C f):PySem.W.takerIn K C f=some none:=by
 unfold PySem.W.takerIn
 rw[show PySem.W.findIn K (.ref C) f=some none from n]
 rfl
structure Con (K:PySem.W.Frag) (C:Addr) (f:Str) (v:V) (u:Value):Prop where
 at_:PySem.W.findIn K (.ref C) f=some (some u)
 rel:qJ v u
 get:PySem.W.specialIn K u "__get__"=some none
 cp:PySem.W.copiedNames.contains f=false
structure U8 (K:PySem.W.Frag) (C:Addr) (m:Str) (f:Addr):Prop where
 at_:PySem.W.findIn K (.ref C) m=some (some (.ref f))
 fn:PySem.W.isFn K (.ref f)=true
 kp:PySem.W.keepIn K (.ref f)=true
section
variable {X:Cx} {pins:List (Addr×Obj)} {σ:St} {H:Hp} {s:Shared} {a C dx:Addr} {fs:List (Str×V)} {f:Str} {v:V} {A:Around} {E:Value->Shared->Prop}
theorem WX {b:Bool} {Q:Value->Shared->Prop} (I:qr X pins σ H s) (e:H a=some (.ins C dx fs)) (c:Vc X.K C) (n:j9 X.K C f) (l:fs.lookup f=some v)
   (h:∀u s',qr X pins σ H s'->qJ v u->Q u s'):wpAny (model X.prog X.w) A (getAttr (.ref a) f b) Q E s:=by
 obtain⟨mA,O,r,_,_,_⟩:=Z3 I.hok e
 obtain⟨u,hu,ru⟩:=Q6.some_of (v:=v) (o:=mA f) (by rw[<-l];exact r f)
 exact xL I.kIn O (c.get f) c.hd n hu (YG ru) (h u _ (I.tok _) ru)
theorem zN {m:Str} {g:Addr} {pl:Sem Bool} {Q:Value×List Value->Shared->Prop} (I:qr X pins σ H s) (e:H a=some (.ins C dx fs)) (c:Vc X.K C) (k:U8 X.K C m g) (l:fs.lookup m=none)
   (h:Q (.ref g,[.ref a]) s):wpAny (model X.prog X.w) A (getMethod (.ref a) m pl) Q E s:=by
 obtain⟨mA,O,r,_,_,_⟩:=Z3 I.hok e
 have hn:mA m=none:=Q6.none_of (by rw[<-l];exact r m)
 exact kZ I.kIn O (c.get m) k.at_ k.fn hn h
theorem WD {y:V} {u:Value} {Q:Unit->Shared->Prop} (I:qr X pins σ H s) (e:H a=some (.ins C dx fs)) (c:Vc X.K C) (n:j9 X.K C f) (hl:fs.length < 1000) (ry:qJ y u)
   (h:∀s',qr X pins σ (upd H a (.ins C dx (QR f y fs))) s'->Q () s'):wpAny (model X.prog X.w) A (setAttr (.ref a) f u) Q E s:=by
 obtain⟨mA,O,r,wi,_,ho⟩:=Z3 I.hok e
 have hz:(fs.map (·.1)).length<=sizeLine:=by rw[List.length_map,sizeLine_eq];omega
 refine yS I.kIn O c.sa c.po n.taker c.hd wi hz λh' O' sb=>h _ ?_
 have hd:∃o,h'.get? dx=some o:=let ⟨o,_,_,e',_⟩:=O'.ns;⟨o,e'⟩
 refine I.write (x:=a) (e:=dx) (by rw[e];exact True.intro) (.inr ho) (λb q hb z=>(sb.2 b hb).trans z) hd ?_
 refine⟨by rw[qg O.ne];exact ho,?_,O.ne,O'.obj,_,O'.ns,λg=>?_,λg hg=>?_⟩
 . have:=ZN f y fs;omega
 . show Q6 ((QR f y fs).lookup g) (if g=f then some u else mA g)
   rw[ZM]
   by_cases q:g=f
   . rw[if_pos q,if_pos q];exact ry
   . rw[if_neg q,if_neg q];exact r g
 . by_cases q:g=f
   . rw[q];exact(ZB f y fs).1
   . refine(ZB f y fs).2 g (wi g λz=>hg ?_)
     show (if g=f then some u else mA g)=none
     rw[if_neg q];exact z
theorem qr.made (I:qr X pins σ H s):qr X pins σ (upd (upd H s.heap.objs.size (.own (s.heap.objs.size+1))) (s.heap.objs.size+1) (.ins C s.heap.objs.size []))
   {s with heap:=(s.heap.push PySem.W.emptyDict).push (PySem.W.instObj C s.heap.objs.size)}:=by
 have e1:(s.heap.push PySem.W.emptyDict).get? s.heap.objs.size=some PySem.W.emptyDict:=Heap.get?_push_size s.heap rfl
 have e2:((s.heap.push PySem.W.emptyDict).push (PySem.W.instObj C s.heap.objs.size)).get? (s.heap.objs.size+1)=some (PySem.W.instObj C s.heap.objs.size):=by
   have:=Heap.get?_push_size (s.heap.push PySem.W.emptyDict) (o:=PySem.W.instObj C s.heap.objs.size) rfl
   rwa [Heap.size_push]at this
 have e3:(s.heap.push PySem.W.emptyDict).Ns s.heap.objs.size (λ_=>none):=⟨PySem.W.emptyDict,#[],_,e1,rfl,(λe he=>absurd he (by simp)),λ_=>rfl⟩
 have I1:=I.laid (a:=s.heap.objs.size) (o:=.own (s.heap.objs.size+1)) (h':=s.heap.push PySem.W.emptyDict) (t':=s.toks) (λb u q=>Heap.get?_push_of_some _ q) (Nat.le_refl _) ⟨_,e1⟩
 refine I1.laid (a:=s.heap.objs.size+1) (o:=.ins C s.heap.objs.size []) (t':=s.toks) (λb u q=>Heap.get?_push_of_some _ q) (Nat.le_of_eq (Heap.size_push _ _)) ?_
 have ne:s.heap.objs.size≠s.heap.objs.size+1:=Nat.ne_of_lt (Nat.lt_succ_self _)
 refine⟨by rw[qg ne,qd],Nat.zero_le _,ne,e2,λ_=>none,(Heap.Ns1.of_empty e3).at λo q=>Heap.get?_push_of_some _ q,λ_=>True.intro,λy hy=>absurd rfl hy⟩
theorem V5 {prog:Program} {w:World} {env:Env} {e:Expr} {f:Str} {pos:Pos} {s:Shared} {Q:Value->Shared->Prop} (hb:attributeBase e f env (eval e env)=eval e env)
   (h:wpAny (model prog w) A (eval e env) (λo s₁=>wpAny (model prog w) A (getAttr o f true) Q E s₁) E s):wpAny (model prog w) A (eval (.Attribute e f pos) env) Q E s:=
 Attribute_any_ h (by rw[arm_eval_Attribute,hb])
end
def G8 (K:PySem.W.Frag) (ta:TE) (f:Str):TE:=λσ H Q=>ta σ H λx H1=>∃a C dx fs v,x=.ref a/\H1 a=some (.ins C dx fs)/\Vc K C/\j9 K C f/\fs.lookup f=some v/\Q v H1
def Rn (K:PySem.W.Frag) (ta tv:TE) (f:Str):TS:=λD σ H=>tv σ H λy H1=>ta σ H1 λx H2=>∃a C dx fs,x=.ref a/\H2 a=some (.ins C dx fs)/\Vc K C/\j9 K C f/\fs.length < 1000/\
 D.nx σ (upd H2 a (.ins C dx (QR f y fs)))
section
variable {X:Cx} {o e value:Expr} {f:Str} {pos pos' tpos:Pos} {ta tv:TE}
theorem zL (he:JE X e ta) (hb:attributeBase e f X.env (eval e X.env)=eval e X.env):JE X (.Attribute e f pos) (G8 X.K ta f):=.of (by
 have he:=he.to
 intro pins s σ H Q I h
 refine V5 hb (je (he pins s σ H _ I h) λu s1 ⟨x,H1,I1,rx,a,C,dx,fs,v,ex,ea,c,n,l,q⟩=>?_)
 subst ex
 obtain rfl:u=Value.ref a:=rx
 exact WX I1 ea c n l λu' s2 I2 ru=>⟨v,H1,I2,ru,q⟩)
theorem kF (ha:JE X o ta) (hv:JE X value tv) (hs:swapsWith value (some (.Attribute o f pos')) pos.line X.env=pure false):JS X (.Assign [.Attribute o f pos'] value pos) (Rn X.K ta tv f):=.of (by
 have ha:=ha.to
 have hv:=hv.to
 intro pins s σ H D I h
 refine plainObj_wpAny_Assign_Attribute (je (hv pins s σ H _ I h) λu s1 ⟨y,H1,I1,ry,q⟩=>je (ha pins s1 σ H1 _ I1 q) λov s2 ⟨x,H2,I2,rx,a,C,dx,fs,ex,ea,c,n,l,q2⟩=>?_) hs
 subst ex
 obtain rfl:ov=Value.ref a:=rx
 exact WD I2 ea c n l ry λs3 I3=>⟨σ,_,I3,q2⟩)
end
section
variable {X:Cx} {pins:List (Addr×Obj)} {σ:St} {H:Hp} {s:Shared} {A:Around} {E:Value->Shared->Prop} {Q:Value->Shared->Prop} {c:Value} {b:Bool}
inductive TyOf (K:PySem.W.Frag) (H:Hp):V->Value->Prop where
 | non:TyOf K H .non (.type "NoneType")
 | bl (x:Bool):TyOf K H (.bl x) (.type "bool")
 | int (i:Int):TyOf K H (.int i) (.type "int")
 | str (x:Str):TyOf K H (.str x) (.type "str")
 | flt (x:UInt64):TyOf K H (.flt x) (.type "float")
 | lst {a:Addr} {xs:List V} (e:H a=some (.lst xs)):TyOf K H (.ref a) (.type "list")
 | frz {a:Addr} {o:Obj} {xs:List V} (e:H a=some (.frz o (.lst xs))):TyOf K H (.ref a) (.type "list")
 | tup {a:Addr} {xs:List V} (e:H a=some (.tup xs)):TyOf K H (.ref a) (.type "tuple")
 | dK {a:Addr} {kvs:List (qQ×V)} (e:H a=some (.dK kvs)):TyOf K H (.ref a) (.type "dict")
 | dT {a:Addr} {kvs:List (List qQ×V)} (e:H a=some (.dT kvs)):TyOf K H (.ref a) (.type "dict")
 | ins {a C dx:Addr} {fs:List (Str×V)} (e:H a=some (.ins C dx fs)) (cl:Vc K C) (ha:PySem.W.findIn K (.ref C) "__class__"=some (some (.builtin "object.__class__")))
     (hn:PySem.W.specialIn K (.builtin "object.__class__") "__get__"=some (some (.builtin "getset_descriptor.__get__"))) (htk:PySem.W.takesIn K (.builtin "object.__class__")=some true)
     (hm:PySem.W.mroIn K C (.type "object")=some true):TyOf K H (.ref a) (.ref C)
theorem UM {x:V} {u t:Value} (I:qr X pins σ H s) (rx:qJ x u) (ty:TyOf X.K H x t) (e:PySem.W.kitOne X.K t c=some b) (h:∀tk,Q (.bool b) {s with toks:=tk}):
   wpAny (model X.prog X.w) A (call (.builtin "isinstance") [u,c]) Q E s:=by
 cases ty with
 | non=>cases (show u=Value.none from rx);exact PySem.W.kia_one PySem.W.kitx_none I.kIn True.intro e (λz=>nomatch z) h
 | bl y=>cases (show u=Value.bool y from rx);exact PySem.W.kia_one PySem.W.kitx_bool I.kIn True.intro e (λz=>nomatch z) h
 | int i=>obtain⟨t,q⟩:=(show ∃t,u=Value.int i t from rx);cases q;exact PySem.W.kia_one PySem.W.kitx_int I.kIn True.intro e (λz=>nomatch z) h
 | str y=>obtain⟨t,q⟩:=(show ∃t,u=Value.str y t from rx);cases q;exact PySem.W.kia_one PySem.W.kitx_str I.kIn True.intro e (λz=>nomatch z) h
 | flt y=>obtain⟨t,q⟩:=(show ∃t,u=Value.float y t from rx);cases q;exact PySem.W.kia_one PySem.W.kitx_float I.kIn True.intro e (λz=>nomatch z) h
 | @lst a xs ea=>
   cases (show u=Value.ref a from rx)
   obtain⟨_,_,n,_,h1⟩:=(show qB X.prog X.w H s.heap a (.lst xs) from I.hok a _ ea)
   exact PySem.W.kia_one PySem.W.kitx_list I.kIn ⟨_,h1,rfl⟩ e (λz=>nomatch z) h
 | @frz a ob xs ea=>
   cases (show u=Value.ref a from rx)
   obtain⟨_,_,_,n,_,h1⟩:=(show qB X.prog X.w H s.heap a (.frz ob (.lst xs)) from I.hok a _ ea)
   exact PySem.W.kia_one PySem.W.kitx_list I.kIn ⟨_,h1,rfl⟩ e (λz=>nomatch z) h
 | @tup a xs ea=>
   cases (show u=Value.ref a from rx)
   obtain⟨_,_,_,p⟩:=(show qB X.prog X.w H s.heap a (.tup xs) from I.hok a _ ea)
   obtain⟨o,h1,h2,_⟩:=p
   exact PySem.W.kia_one PySem.W.kitx_tuple I.kIn ⟨o,h1,h2⟩ e (λz=>nomatch z) h
 | @dK a kvs ea=>
   cases (show u=Value.ref a from rx)
   obtain⟨_,_,vs,_,p⟩:=(show qB X.prog X.w H s.heap a (.dK kvs) from I.hok a _ ea)
   obtain⟨o,es,ep,h1,h2,_⟩:=p
   exact PySem.W.kia_one PySem.W.kitx_dict I.kIn ⟨o,h1,h2.1⟩ e (λz=>nomatch z) h
 | @dT a kvs ea=>
   cases (show u=Value.ref a from rx)
   obtain⟨_,_,xs,_,o,es,ep,h1,h2,_⟩:=(show qB X.prog X.w H s.heap a (.dT kvs) from I.hok a _ ea)
   exact PySem.W.kia_one PySem.W.kitx_dict I.kIn ⟨o,h1,h2.1⟩ e (λz=>nomatch z) h
 | @ins a C dx fs ea cl ha hn htk hm=>
   cases (show u=Value.ref a from rx)
   obtain⟨mA,O,_⟩:=Z3 I.hok ea
   obtain⟨od,J,_⟩:=O.look
   exact PySem.W.kia_one (PySem.W.kitx_own (cl.get _) cl.hd ha hn htk hm) I.kIn J e (λz=>nomatch z) h
end
end L2
namespace L2
open PySem PySem.Spec PyProof.Rows
structure qY (k:Nat) (A:Around):Prop where
 hd:A.handled=none
 dp:A.depth+3*k+5 < recursionLimit
 un:A.units+16*k+200 < cLine
 gd:A.guards=some []
theorem qY.mono {j k:Nat} {A:Around} (r:qY k A) (h:j<=k):qY j A:=⟨r.hd,by have:=r.dp;omega,by have:=r.un;omega,r.gd⟩
theorem qY.deeper {k:Nat} {A:Around} (r:qY (k+1) A) (env:Env):qY k (A.deeper env):=
 ⟨r.hd,by have:=r.dp;show A.depth+1+3*k+5 < _;omega,by have:=r.un;show A.units+3+16*k+200 < _;omega,r.gd⟩
theorem WQ {A:Around} {C:Addr} {us:List Value} {kw:List (Str×Value)}:(A.under (.builtin "type.__call__" ⟨.ref C::us,kw⟩)).depth=A.depth+1:=by
 first | rfl | simp [Around.under,Code.weight,Code.isCreation,Code.isGuard,Code.isCaller,Code.frames,Code.isFrame,guardIds]
theorem WP {A:Around} {C:Addr} {us:List Value} {kw:List (Str×Value)}:(A.under (.builtin "type.__call__" ⟨.ref C::us,kw⟩)).units=A.units+1:=by
 first | rfl | simp [Around.under,Code.cUnits,Code.frames,Code.isFrame]
theorem qY.make {k:Nat} {A:Around} (r:qY (k+1) A) (C:Addr) (us:List Value) (kw:List (Str×Value)):qY k (A.under (.builtin "type.__call__" ⟨.ref C::us,kw⟩)):=
 ⟨r.hd,by have:=r.dp;rw[WQ];omega,by have:=r.un;rw[WP];omega,(by have:=r.gd;first | exact this | simpa [Around.under,Code.isGuard,guardIds] using this)⟩
theorem qY.depth {k:Nat} {A:Around} (r:qY k A):A.depth < recursionLimit:=by have:=r.dp;omega
theorem qY.units {k:Nat} {A:Around} (r:qY k A):A.units+64 < cLine:=by have:=r.un;omega
theorem qY.units0 {k:Nat} {A:Around} (r:qY k A):A.units < cLine:=by have:=r.un;omega
def Qk:TA:=λ_ H Q=>Q [] H
def jc (ta:TE) (tr:TA):TA:=λσ H Q=>ta σ H λx H1=>tr σ H1 λxs H2=>Q (x::xs) H2
section
variable {X:Cx} {e:Expr} {es:List Expr} {te:TE} {t:TA} {pos:Pos}
theorem qe:JA X [] Qk:=.of (by
 exact λ_ _ _ _ H Q I h=>Calls.spliced_nil ⟨[],H,I,.nil,h⟩)
theorem qb (ha:JE X e te) (hr:JA X es t) (hs:starEach (e::es) X.env=(false,eval e X.env)::starEach es X.env:=by rfl):JA X (e::es) (jc te t):=.of (by
 have ha:=ha.to
 have hr:=hr.to
 intro pos pins s σ H Q I h
 rw[hs]
 show wpAny _ _ (spliced ((false,eval e X.env)::backTo pos (starEach es X.env))) _ _ s
 refine Calls.spliced_cons (je (ha pins s σ H _ I h) λu s1 ⟨x,H1,I1,r1,q1⟩=>?_)
 exact je (hr pos pins s1 σ H1 _ I1 q1) λus s2 ⟨xs,H2,I2,r2,q2⟩=>⟨x::xs,H2,I2,.cons r1 r2,q2⟩)
def yF (t:TA):TE:=λσ H Q=>t σ H λxs H1=>xs.length<=sizeLine/\∀p,H1 p=none->Q (.ref p) (upd H1 p (.tup xs))
def vh (t:TA):TE:=λσ H Q=>t σ H λxs H1=>xs.length<=sizeLine/\∀p,H1 p=none->Q (.ref p) (upd H1 p (.lst xs))
theorem jl {x1} (h:JA X es t):JE X (.Tuple es x1 pos) (yF t):=.of (by
 have h:=h.to
 intro pins s σ H Q I hq
 refine wpAny_Tuple_spliced (je (h pos pins s σ H _ I hq) λus s1 ⟨xs,H1,I1,r,z,q⟩=>⟨by rw[<-r.length];exact z,?_⟩)
 have hf:H1 s1.heap.objs.size=none:=I1.hok.fresh (Nat.le_refl _)
 refine⟨.ref s1.heap.objs.size,upd H1 s1.heap.objs.size (.tup xs),I1.laid (t':=s1.toks) (λb u e=>Heap.get?_push_of_some _ e) (Nat.le_refl _) ?_,rfl,q _ hf⟩
 exact⟨z,us,r,⟨_,Heap.get?_push_size _ rfl,rfl,_,rfl⟩⟩)
theorem qO (h:JA X es t):JE X (.List es pos) (vh t):=.of (by
 have h:=h.to
 intro pins s σ H Q I hq
 refine wpAny_List_spliced (je (h pos pins s σ H _ I hq) λus s1 ⟨xs,H1,I1,r,z,q⟩=>⟨by rw[<-r.length];exact z,?_⟩)
 have hf:H1 s1.heap.objs.size=none:=I1.hok.fresh (Nat.le_refl _)
 refine⟨.ref s1.heap.objs.size,upd H1 s1.heap.objs.size (.lst xs),I1.laid (t':=s1.toks) (λb u e=>Heap.get?_push_of_some _ e) (Nat.le_refl _) ?_,rfl,q _ hf⟩
 exact⟨z,us,0,r,Heap.get?_push_size _ rfl⟩)
end
abbrev Sp:=List V->Hp->VK->XK->Prop
abbrev ZI:=List Env->Hp->Shared->XK->Value->Shared->Prop
structure Wq (P:Program) (w:World) (K:PySem.W.Frag) (mg:Str->Option Value) (base:Heap) (A:Around) (outer:List Env) (s:Shared) (H:Hp):Prop where
 frames:A.frames=some outer
 mod:Mod K mg base
 bs:∀b o,base.get? b=some o->s.heap.get? b=some o/\H b=none
 bsz:base.objs.size<=s.heap.objs.size
 funs:s.heap.FunFrames base outer
 frf:∀b∈ZO outer,H b=none
 hok:Q1 P w H s.heap
 bare:AllBare s.gens
def CE (outer:List Env) (P:Program) (w:World) (H:Hp) (s:Shared) (Q:VK) (u:Value) (s':Shared):Prop:=
 ∃v H',s'.os=s.os/\AllBare s'.gens/\Un (ZO outer) [] H H' s.heap s'.heap/\Q1 P w H' s'.heap/\qJ v u/\Q v H'
def CR (CX:ZI) (outer:List Env) (P:Program) (w:World) (H:Hp) (s:Shared) (Q:VK) (E:XK) (r:Result) (s':Shared):Prop:=
 match r with
 | .ok (.ret u)=>CE outer P w H s Q u s'
 | .ok _=>False
 | .error e=>CX outer H s E e s'
structure qp (P:Program) (w:World) (K:PySem.W.Frag) (mg:Str->Option Value) (base:Heap) (CX:ZI) (k:Nat) (f:Addr) (fd:FuncData) (ps:List Str) (sp:Sp):Prop where
 len:∀vs H Q E,sp vs H Q E->vs.length=ps.length
 run:∀(A:Around) (outer:List Env) (s:Shared) (H:Hp) (args:Args) (us:List Value) (vs:List V) (Q:VK) (E:XK),qY k A->Wq P w K mg base A outer s H->BindsTo s fd args (ps.zip us)->qC vs us->sp vs H Q E->
   codeAny (model P w) A (.call (.ref f) args) (CR CX outer P w H s Q E) s
theorem qp.imp {P:Program} {w:World} {K:PySem.W.Frag} {mg:Str->Option Value} {base:Heap} {CX:ZI} {k:Nat} {f:Addr} {fd:FuncData} {ps:List Str} {sp sp':Sp} (F:qp P w K mg base CX k f fd ps sp)
   (h:∀vs H Q E,sp' vs H Q E->sp vs H Q E):qp P w K mg base CX k f fd ps sp':=
 ⟨λvs H Q E q=>F.len vs H Q E (h _ _ _ _ q),λA outer s H args us vs Q E hr he hb hv hs=>F.run A outer s H args us vs Q E hr he hb hv (h _ _ _ _ hs)⟩
theorem Wq.make {P:Program} {w:World} {K:PySem.W.Frag} {mg:Str->Option Value} {base:Heap} {A:Around} {outer:List Env} {s:Shared} {H:Hp} (e:Wq P w K mg base A outer s H) (C:Addr) (us:List Value) (kw:List (Str×Value)):
   Wq P w K mg base (A.under (.builtin "type.__call__" ⟨.ref C::us,kw⟩)) outer s H:=⟨by first | exact e.frames | (simpa [Around.under,Code.envs,Code.isFrame,pushEnvs] using e.frames),e.mod,e.bs,e.bsz,e.funs,e.frf,e.hok,e.bare⟩
section
variable {X:Cx} {pins:List (Addr×Obj)} {σ:St} {H:Hp} {s s':Shared}
theorem qr.env0 (I:qr X pins σ H s):Wq X.prog X.w X.K X.mg X.base X.A X.stack s H:=
 ⟨I.ok.frames,I.ok.mod,I.bs,Nat.le_trans I.ok.bsz I.sz,I.stack,I.stkFree,I.hok,I.bare⟩
theorem qr.after {Q:VK} {u:Value} (I:qr X pins σ H s) (h:CE X.stack X.prog X.w H s Q u s'):EP X pins σ Q u s':=by
 obtain⟨v,H',os,bare,un,hok,r,q⟩:=h
 obtain⟨hh,g,d,t,os'⟩:=s'
 obtain rfl:os'=s.os:=os
 exact⟨v,H',I.call (h':=hh) (g':=g) (d':=d) (t':=t) (ch:=[]) un hok bare (λb z=>absurd z (by simp)),r,q⟩
end
def zd (sp:Sp) (dvs:List V) (E:XK) (t:TA):TE:=λσ H Q=>t σ H λvs H1=>sp (vs++dvs) H1 Q E
def Ym (C:Addr) (m:Str) (sp:Sp) (dvs:List V) (E:XK) (ta:TE) (t:TA):TE:=λσ H Q=>ta σ H λx H1=>∃a dx fs,x=.ref a/\H1 a=some (.ins C dx fs)/\fs.lookup m=none/\
 t σ H1 λvs H2=>sp (x::(vs++dvs)) H2 Q E
def Kj (C:Addr) (sp:Sp) (dvs:List V) (E:XK) (t:TA):TE:=λσ H Q=>t σ H λvs H1=>∀x dx,H1 x=none->H1 dx=none->dx≠x->
 sp (.ref x::(vs++dvs)) (upd (upd H1 dx (.own x)) x (.ins C dx [])) (λv H2=>v=.non/\Q (.ref x) H2) E
def jE (K:PySem.W.Frag) (fd:FuncData) (ps:List Str) (ds:List Value):Prop:=
 ∀(s:Shared) (us:List Value),K.In s.heap->(us++ds).length=ps.length->BindsTo s fd ⟨us,[]⟩ (ps.zip (us++ds))
theorem jE.all {K:PySem.W.Frag} {fd:FuncData} {ps:List Str} (h:∀us:List Value,us.length=ps.length->bindArgs fd ⟨us,[]⟩=pure (ps.zip us)):jE K fd ps []:=λs us _ hl=>by
 rw[List.append_nil]at hl ⊢
 exact .of_eq (h us hl)
def jx (CX:ZI) (X:Cx) (E:XK):Prop:=∀(pins:List (Addr×Obj)) (σ:St) (H:Hp) (s:Shared) (e:Value) (s':Shared),qr X pins σ H s->CX X.stack H s E e s'->X.xe e s'
section
variable {X:Cx} {CX:ZI} {k:Nat} {f C:Addr} {fd:FuncData} {ps:List Str} {sp:Sp} {dvs:List V} {ds:List Value} {E:XK} {x m:Str} {p pos apos:Pos} {e o:Expr} {es:List Expr} {ta:TE} {t:TA}
theorem Y3 {pins:List (Addr×Obj)} {σ:St} {H:Hp} {s:Shared} {Q:VK} {us:List Value} {vs:List V} (F:qp X.prog X.w X.K X.mg X.base CX k f fd ps sp) (hr:qY k X.A) (hb:jE X.K fd ps ds) (hd:qC dvs ds) (hx:jx CX X E)
   (I:qr X pins σ H s) (r:qC vs us) (h:sp (vs++dvs) H Q E):wpAny (model X.prog X.w) X.A (call (.ref f) us) (EP X pins σ Q) X.xe s:=by
 have r2:qC (vs++dvs) (us++ds):=r.append hd
 have hl:(us++ds).length=ps.length:=by rw[<-r2.length];exact F.len _ _ _ _ h
 refine wpAny_call (codeAny_mono (F.run X.A X.stack s H ⟨us,[]⟩ (us++ds) (vs++dvs) Q E hr I.env0 (hb s us I.kIn hl) r2 h) λr s' hq=>?_)
 cases r with
 | error e=>exact hx pins σ H s e s' I hq
 | ok fl=>
   cases fl with
   | ret u=>exact I.after hq
   | next=>exact False.elim hq
   | brk=>exact False.elim hq
   | cont=>exact False.elim hq
theorem VF (F:qp X.prog X.w X.K X.mg X.base CX k f fd ps sp) (hr:qY k X.A) (hg:Gl X x) (hm:X.mg x=some (.ref f)) (hk:PySem.W.keepIn X.K (.ref f)=true) (hb:jE X.K fd ps ds) (hd:qC dvs ds) (hx:jx CX X E)
   (ha:PA X (e::es) t) (hdb:(x==("__debug__":Str))=false:=by decide) (he:starEach (e::es) X.env=(false,eval e X.env)::starEach es X.env:=by rfl) (hpl:(backTo pos (starEach es X.env)).any (·.1)=false:=by rfl):
   PE X (.Call (.Name x p) (e::es) [] pos) (zd sp dvs E t):=by
 intro pins s σ H Q I h
 refine wpAny_Call_Name_kw (Jq I hg hm ?_ hdb)
 refine PySem.W.callWith_K (h₀:=X.base) I.ok.mod.kin hk (je (ha pos pins s σ H _ I h) λus s1 ⟨vs,H1,I1,r,q⟩=>⟨I1.kIn,?_⟩) he hpl
 exact Y3 F hr hb hd hx I1 r q
theorem kN (F:qp X.prog X.w X.K X.mg X.base CX k f fd ps sp) (hr:qY k X.A) (hg:Gl X x) (hm:X.mg x=some (.ref f)) (hk:PySem.W.keepIn X.K (.ref f)=true) (hb:jE X.K fd ps ds) (hd:qC dvs ds) (hx:jx CX X E) (hdb:(x==("__debug__":Str))=false:=by decide):JE X (.Call (.Name x p) [] [] pos) (zd sp dvs E Qk):=.of (by
 intro pins s σ H Q I h
 refine wpAny_Call_Name_kw (Jq I hg hm ?_ hdb)
 exact PySem.W.callWith_K0 I.kIn hk (Y3 (us:=[]) F hr hb hd hx I .nil h))
theorem xa {pl:Sem Bool} (he:PE X o ta) (c:Vc X.K C) (hm:U8 X.K C m f) (F:qp X.prog X.w X.K X.mg X.base CX k f fd ps sp) (hr:qY k X.A) (hb:jE X.K fd ps ds) (hd:qC dvs ds) (hx:jx CX X E) (ha:PA X (e::es) t)
   (hst:starEach (e::es) X.env=(false,eval e X.env)::starEach es X.env:=by rfl) (hpl:(backTo pos (starEach es X.env)).any (·.1)=false:=by rfl)
   (ht:eval (.Call (.Attribute o m apos) (e::es) [] pos) X.env=(do
     let ov <-eval o X.env
     standAt apos.atName
     let (f,first) <-holding [ov] (getMethod ov m pl)
     callWith pos f first (backTo pos (starEach (e::es) X.env)) (backToKw pos (keywordEach [] X.env))):=by rfl):
   PE X (.Call (.Attribute o m apos) (e::es) [] pos) (Ym C m sp dvs E ta t):=by
 intro pins s σ H Q I h
 refine PySem.W.methodCall_KW (pl:=pl) (je (he pins s σ H _ I h) λu s1 ⟨x,H1,I1,rx,a,dx,fs,ex,ea,l,q⟩=>?_) ht
 subst ex
 obtain rfl:u=Value.ref a:=rx
 refine zN I1 ea c hm l ?_
 refine PySem.W.callWith_K (first:=[.ref a]) (h₀:=X.base) I.ok.mod.kin hm.kp (je (ha pos pins s1 σ H1 _ I1 q) λus s2 ⟨vs,H2,I2,r,q2⟩=>⟨I2.kIn,?_⟩) hst hpl
 exact Y3 (us:=.ref a::us) (vs:=.ref a::vs) F hr hb hd hx I2 (.cons rfl r) q2
theorem xH {pl:Sem Bool} (he:JE X o ta) (c:Vc X.K C) (hm:U8 X.K C m f) (F:qp X.prog X.w X.K X.mg X.base CX k f fd ps sp) (hr:qY k X.A) (hb:jE X.K fd ps ds) (hd:qC dvs ds) (hx:jx CX X E) (ha:JA X (e::es) t) (hst:starEach (e::es) X.env=(false,eval e X.env)::starEach es X.env:=by rfl) (hpl:(backTo pos (starEach es X.env)).any (·.1)=false:=by rfl) (ht:eval (.Call (.Attribute o m apos) (e::es) [] pos) X.env=(do
     let ov <-eval o X.env
     standAt apos.atName
     let (f,first) <-holding [ov] (getMethod ov m pl)
     callWith pos f first (backTo pos (starEach (e::es) X.env)) (backToKw pos (keywordEach [] X.env))):=by rfl):JE X (.Call (.Attribute o m apos) (e::es) [] pos) (Ym C m sp dvs E ta t):=.of (xa he.to c hm F hr hb hd hx ha.to hst hpl ht)
theorem vQ {pl:Sem Bool} (he:PE X o ta) (c:Vc X.K C) (hm:U8 X.K C m f) (F:qp X.prog X.w X.K X.mg X.base CX k f fd ps sp) (hr:qY k X.A) (hb:jE X.K fd ps ds) (hd:qC dvs ds) (hx:jx CX X E)
   (ht:eval (.Call (.Attribute o m apos) [] [] pos) X.env=(do
     let ov <-eval o X.env
     standAt apos.atName
     let (f,first) <-holding [ov] (getMethod ov m pl)
     callWith pos f first (backTo pos (starEach [] X.env)) (backToKw pos (keywordEach [] X.env))):=by rfl):
   PE X (.Call (.Attribute o m apos) [] [] pos) (Ym C m sp dvs E ta Qk):=by
 intro pins s σ H Q I h
 refine PySem.W.methodCall_KW (pl:=pl) (je (he pins s σ H _ I h) λu s1 ⟨x,H1,I1,rx,a,dx,fs,ex,ea,l,q⟩=>?_) ht
 subst ex
 obtain rfl:u=Value.ref a:=rx
 refine zN I1 ea c hm l ?_
 exact PySem.W.callWith_K0 (first:=[.ref a]) I1.kIn hm.kp (Y3 (us:=[.ref a]) (vs:=[.ref a]) F hr hb hd hx I1 (.cons rfl .nil) q)
theorem kK {pl:Sem Bool} (he:JE X o ta) (c:Vc X.K C) (hm:U8 X.K C m f) (F:qp X.prog X.w X.K X.mg X.base CX k f fd ps sp) (hr:qY k X.A) (hb:jE X.K fd ps ds) (hd:qC dvs ds) (hx:jx CX X E) (ht:eval (.Call (.Attribute o m apos) [] [] pos) X.env=(do
     let ov <-eval o X.env
     standAt apos.atName
     let (f,first) <-holding [ov] (getMethod ov m pl)
     callWith pos f first (backTo pos (starEach [] X.env)) (backToKw pos (keywordEach [] X.env))):=by rfl):JE X (.Call (.Attribute o m apos) [] [] pos) (Ym C m sp dvs E ta Qk):=.of (vQ he.to c hm F hr hb hd hx ht)
structure Mk (K:PySem.W.Frag) (C f:Addr):Prop where
 makes:PySem.W.makesIn K C=true
 init:PySem.W.findIn K (.ref C) "__init__"=some (some (.ref f))
 fn:PySem.W.isFn K (.ref f)=true
 kp:PySem.W.keepIn K (.ref C)=true
theorem vG {pins:List (Addr×Obj)} {σ:St} {H:Hp} {s:Shared} {Q:VK} {us:List Value} {vs:List V} (M:Mk X.K C f) (F:qp X.prog X.w X.K X.mg X.base CX k f fd ps sp) (hr:qY (k+1) X.A) (hb:jE X.K fd ps ds) (hd:qC dvs ds)
   (hx:jx CX X E) (I:qr X pins σ H s) (r:qC vs us)
   (h:∀x dx,H x=none->H dx=none->dx≠x->sp (.ref x::(vs++dvs)) (upd (upd H dx (.own x)) x (.ins C dx [])) (λv H2=>v=.non/\Q (.ref x) H2) E):
   wpAny (model X.prog X.w) X.A (call (.ref C) us) (EP X pins σ Q) X.xe s:=by
 have hq:=h (s.heap.objs.size+1) s.heap.objs.size (I.hok.fresh (Nat.le_succ _)) (I.hok.fresh (Nat.le_refl _)) (Nat.ne_of_lt (Nat.lt_succ_self _))
 have I2:=qr.made (C:=C) I
 have r2:qC (V.ref (s.heap.objs.size+1)::(vs++dvs)) (Value.ref (s.heap.objs.size+1)::(us++ds)):=.cons rfl (r.append hd)
 have hl:(Value.ref (s.heap.objs.size+1)::us++ds).length=ps.length:=by
   have e:=r2.length
   rw[F.len _ _ _ _ hq]at e
   exact e.symm
 refine wpAny_call (kt (f:=f) I.kIn M.makes M.init (beq_iff_eq.mp M.fn) (codeAny_mono (F.run _ X.stack _ _ ⟨Value.ref (s.heap.objs.size+1)::us,[]⟩ (Value.ref (s.heap.objs.size+1)::(us++ds)) _ _ E (hr.make C us [])
   (I2.env0.make C us []) (hb _ (Value.ref (s.heap.objs.size+1)::us) I2.kIn hl) r2 hq) λr s' hq'=>?_))
 cases r with
 | error e=>exact hx pins σ _ _ e s' I2 hq'
 | ok fl=>
   cases fl with
   | ret u=>
     obtain⟨v,H',I3,rv,ev,q3⟩:=I2.after hq'
     subst ev
     exact⟨rv,⟨V.ref (s.heap.objs.size+1),H',I3,rfl,q3⟩⟩
   | next=>exact False.elim hq'
   | brk=>exact False.elim hq'
   | cont=>exact False.elim hq'
theorem VQ (M:Mk X.K C f) (F:qp X.prog X.w X.K X.mg X.base CX k f fd ps sp) (hr:qY (k+1) X.A) (hg:Gl X x) (hm:X.mg x=some (.ref C)) (hb:jE X.K fd ps ds) (hd:qC dvs ds) (hx:jx CX X E) (ha:JA X (e::es) t) (hdb:(x==("__debug__":Str))=false:=by decide) (he:starEach (e::es) X.env=(false,eval e X.env)::starEach es X.env:=by rfl) (hpl:(backTo pos (starEach es X.env)).any (·.1)=false:=by rfl):JE X (.Call (.Name x p) (e::es) [] pos) (Kj C sp dvs E t):=.of (by
 have ha:=ha.to
 intro pins s σ H Q I h
 refine wpAny_Call_Name_kw (Jq I hg hm ?_ hdb)
 refine PySem.W.callWith_K (h₀:=X.base) I.ok.mod.kin M.kp (je (ha pos pins s σ H _ I h) λus s1 ⟨vs,H1,I1,r,q⟩=>⟨I1.kIn,?_⟩) he hpl
 exact vG M F hr hb hd hx I1 r q)
end
section
variable {X:Cx} {CX:ZI} {k:Nat} {f C:Addr} {fd:FuncData} {ps ks:List Str} {sp:Sp} {E:XK} {x m:Str} {p pos apos kpos:Pos} {e o:Expr} {es:List Expr} {kws:List Keyword} {te ta:TE} {t tk:TA} {nm:Option Str}
structure R4 (K:PySem.W.Frag) (fd:FuncData) (ps ks:List Str) (g:List Value->List Value->List Value) (gV:List V->List V->List V):Prop where
 to:∀(s:Shared) (us ws:List Value),K.In s.heap->(g us ws).length=ps.length->BindsTo s fd ⟨us,ks.zip ws⟩ (ps.zip (g us ws))
 rel:∀{vs:List V} {us:List Value} {zs:List V} {ws:List Value},qC vs us->qC zs ws->qC (gV vs zs) (g us ws)
variable {g:List Value->List Value->List Value} {gV:List V->List V->List V}
end
structure qA (N P:List Str) (sc:Scope):Prop where
 kind:sc.kind=.function
 co:sc.isCoroutine=false
 gen:sc.isGenerator=false
 nd:N.Nodup
 pre:N.take P.length=P
 par:∀x∈P,sc.names.lookup x=some .local\/sc.names.lookup x=some .cell
 nofree:∀y∈sc.names,y.2≠.free
theorem YN {kindOf:Str->Option NameKind} {x:Str}:∀{binds:List (Str×Value)} {m:Str->Option Value},(∀v,(x,v)∉binds)->bindL kindOf binds m x=m x
 | [],_,_=>rfl
 | (n,v)::r,m,h=>by
   unfold bindL
   rw[YN λw hw=>h w (List.mem_cons_of_mem _ hw)]
   split
   . have:x≠n:=by rintro rfl;exact h v List.mem_cons_self
     simp [this]
   . rfl
theorem YQ {kindOf:Str->Option NameKind} {x:Str}:∀{binds:List (Str×Value)} {m:Str->Option Value},(∀v,(x,v)∉binds)->bindC kindOf binds m x=m x
 | [],_,_=>rfl
 | (n,v)::r,m,h=>by
   unfold bindC
   rw[YQ λw hw=>h w (List.mem_cons_of_mem _ hw)]
   split
   . rfl
   . have:x≠n:=by rintro rfl;exact h v List.mem_cons_self
     simp [this]
theorem YO {kindOf:Str->Option NameKind} {x:Str} {v:Value}:∀{P:List Str} {vs:List Value} {i:Nat} {m:Str->Option Value},P.Nodup->P[i]?=some x->vs[i]?=some v->kindOf x=some .local->
   bindL kindOf (P.zip vs) m x=some v
 | [],_,_,_,_,h,_,_=>by simp at h
 | _::_,[],_,_,_,_,h,_=>by simp at h
 | p::P,w::vs,0,m,nd,h1,h2,hk=>by
   simp at h1 h2;subst h1;subst h2
   show bindL kindOf ((p,w)::P.zip vs) m p=_
   unfold bindL
   rw[YN λv hv=>(List.nodup_cons.mp nd).1 (List.of_mem_zip hv).1,if_pos hk]
   simp
 | p::P,w::vs,i+1,m,nd,h1,h2,hk=>by
   show bindL kindOf ((p,w)::P.zip vs) m x=_
   unfold bindL
   exact YO (i:=i) (List.nodup_cons.mp nd).2 (by simpa using h1) (by simpa using h2) hk
theorem YR {kindOf:Str->Option NameKind} {x:Str} {v:Value}:∀{P:List Str} {vs:List Value} {i:Nat} {m:Str->Option Value},P.Nodup->P[i]?=some x->vs[i]?=some v->kindOf x≠some .local->
   bindC kindOf (P.zip vs) m x=some v
 | [],_,_,_,_,h,_,_=>by simp at h
 | _::_,[],_,_,_,_,h,_=>by simp at h
 | p::P,w::vs,0,m,nd,h1,h2,hk=>by
   simp at h1 h2;subst h1;subst h2
   show bindC kindOf ((p,w)::P.zip vs) m p=_
   unfold bindC
   rw[YQ λv hv=>(List.nodup_cons.mp nd).1 (List.of_mem_zip hv).1,if_neg hk]
   simp
 | p::P,w::vs,i+1,m,nd,h1,h2,hk=>by
   show bindC kindOf ((p,w)::P.zip vs) m x=_
   unfold bindC
   exact YR (i:=i) (List.nodup_cons.mp nd).2 (by simpa using h1) (by simpa using h2) hk
def jU (N:List Str) (vs:List V):St:=vs.map some++List.replicate (N.length - vs.length) none
def jL (CX:ZI) (P:Program) (w:World) (K:PySem.W.Frag) (mg:Str->Option Value) (base:Heap) (N:List Str) (qual:Str) (scope:Scope) (f:Addr) (cd:Value) (A:Around) (outer:List Env) (s:Shared) (H:Hp) (E:XK):Cx where
 prog:=P
 w:=w
 K:=K
 mg:=mg
 base:=base
 A:=A.deeper (envOfC qual scope s.heap.objs.size f cd)
 N:=N
 s₀:=s
 H₀:=H
 env:=envOfC qual scope s.heap.objs.size f cd
 outer:=outer
 stack:=envOfC qual scope s.heap.objs.size f cd::outer
 ex:=[]
 calm:=true
 fn:=λ_=>true
 pn:=[]
 xe:=λe s'=>wpAny (model P w) (A.deeper (envOfC qual scope s.heap.objs.size f cd)) (leaving (envOfC qual scope s.heap.objs.size f cd) e) (λ_ s''=>CX outer H s E e s'') (λe' s''=>CX outer H s E e' s'') s'
theorem Wh {sc:Scope} {n:Nat} {x:Str} (h:sc.names.lookup x=some .cell):∃c,(cellsFrom n sc.names []).lookup x=some c:=by
 have q:=PySem.W.cellsFrom_some sc.names n [] (.inl h)
 exact Option.isSome_iff_exists.mp q
theorem YE {CX:ZI} {P:Program} {w:World} {K:PySem.W.Frag} {mg:Str->Option Value} {base:Heap} {N ps:List Str} {qual:Str} {scope:Scope} {f:Addr} {cd:Value} {A:Around} {outer:List Env} {s s1:Shared} {H:Hp} {E:XK} {us:List Value} {vs:List V}
   (S:qA N ps scope) (hd:A.handled=none) (e0:Wq P w K mg base A outer s H) (hl:vs.length=ps.length) (r:qC vs us)
   (x:InCallC s s.heap.objs.size (bindL (envOfC qual scope s.heap.objs.size f cd).kindOf (ps.zip us) λ_=>none) (cellsFrom (s.heap.objs.size+1) scope.names []) (bindC (envOfC qual scope s.heap.objs.size f cd).kindOf (ps.zip us) λ_=>none) s1):
   qr (jL CX P w K mg base N qual scope f cd A outer s H E) [] (jU N vs) H s1:=by
 have hpl:ps.length<=N.length:=by have:=congrArg List.length S.pre;rw[List.length_take]at this;omega
 obtain⟨h1,tk,rfl,hk⟩:=x.done
 have noA:∀b:Addr,b∉(jL CX P w K mg base N qual scope f cd A outer s H E).ex:=λb z=>absurd (show b∈([]:List Addr) from z) (by simp)
 refine⟨⟨e0.mod,S.kind,rfl,rfl,Nat.le_refl _,λy z c h1 h2=>?_,λy hy=>?_,λy c _ h=>?_,λ_=>hd,Around.frames_deeper e0.frames,.inr ⟨rfl,rfl⟩,λb z=>absurd z (noA b),e0.bs,e0.bsz,λb _ _=>noA b,λb z=>absurd z (noA b),e0.funs,e0.frf⟩,
   rfl,e0.bare,Un.kept hk,⟨_,x.toInCall.ns,λi y v h1 h2 h3=>?_⟩,λy c h=>⟨_,x.cell y c h⟩,e0.hok.fresh (Nat.le_refl _),λy c h=>?_,λp hp=>absurd (show p∈([]:List (Addr×Obj)) from hp) (by simp),e0.hok.kept hk,?_⟩
 . exact name_of_addr x.apart (PySem.mem_of_lookup h1) (PySem.mem_of_lookup h2)
 . have hy:scope.names.lookup y=some .cell\/scope.names.lookup y=some .free:=hy
   rcases hy with hy | hy
   . exact Wh hy
   . exact absurd rfl (S.nofree _ (PySem.mem_of_lookup hy))
 . exact Nat.le_of_lt (x.above y c (PySem.mem_of_lookup h))
 . have hi:i < vs.length:=by
     unfold jU at h2
     by_cases hi:i < vs.length
     . exact hi
     . rw[List.getElem?_append_right (by simpa using hi)]at h2
       rw[List.getElem?_replicate]at h2
       split at h2<;>cases h2
   have ha:vs[i]?=some v:=by
     unfold jU at h2
     rw[List.getElem?_append_left (by simpa using hi),List.getElem?_map]at h2
     cases e:vs[i]? with
     | none=>rw[e]at h2;cases h2
     | some a=>rw[e]at h2;cases h2;rfl
   obtain⟨u,hu,rv⟩:=r.get ha
   have hp:ps[i]?=some y:=by
     rw[<-S.pre,List.getElem?_take_of_lt (by omega)];exact h1
   have ndP:ps.Nodup:=by rw[<-S.pre];exact S.nd.sublist (List.take_sublist _ _)
   refine⟨u,rv,?_⟩
   rcases S.par y (List.mem_of_getElem? hp) with k | k
   . exact .inl ⟨k,YO ndP hp hu k⟩
   . obtain⟨c,e⟩:=Wh (n:=s.heap.objs.size+1) k
     refine .inr ⟨.inl k,c,e,?_⟩
     have q:=x.cell y c e
     rw[YR ndP hp hu (by show scope.names.lookup y≠_;rw[k];decide)]at q
     exact q
 . exact .inl (e0.hok.fresh (Nat.le_of_lt (x.above y c (PySem.mem_of_lookup h))))
 . unfold jU
   show _=N.length
   rw[List.length_append,List.length_map,List.length_replicate]
   omega
theorem wF {CX:ZI} {P:Program} {w:World} {K:PySem.W.Frag} {mg:Str->Option Value} {base:Heap} {k:Nat} {f:Addr} {name qual:Str} {params:Arguments} {body:List Stmt} {scope:Scope} {dV kV doc pm cdv ct oc:Value} {an od:Option Addr}
   {osl:Array (Option Value)} {N ps:List Str} {sp:Sp} (lk:K.lookup f=some ⟨oc,od,.func (PySem.W.fnOf name qual params body scope dV kV doc pm an cdv ct),osl⟩) (hcd:PySem.W.codeIn K cdv qual=true) (S:qA N ps scope)
   (len:∀vs H Q E,sp vs H Q E->vs.length=ps.length)
   (hbody:∀(A:Around) (outer:List Env) (s:Shared) (H:Hp) (vs:List V) (Q:VK) (E:XK),qY k (A.deeper (envOfC qual scope s.heap.objs.size f cdv))->sp vs H Q E->
     ∃t,yu (jL CX P w K mg base N qual scope f cdv A outer s H E) body t/\t {nx:=λ_ H'=>Q .non H',rt:=Q} (jU N vs) H):
   qp P w K mg base CX (k+1) f (PySem.W.fnOf name qual params body scope dV kV doc pm an cdv ct) ps sp:=by
 refine⟨len,λA outer s H args us vs Q E hr e0 hb r hsp=>?_⟩
 have hl:=len _ _ _ _ hsp
 have KX:K.In s.heap:=e0.mod.kin.keeps λb o e=>(e0.bs b o e).1
 have lim:s.heap.NoLimit:=e0.mod.nolimit.keeps λb o e=>(e0.bs b o e).1
 have hkind:∀y∈ps.zip us,scope.names.lookup y.1=some .local\/(scope.names.lookup y.1=some .cell/\((cellsFrom (s.heap.objs.size+1) scope.names []).lookup y.1).isSome=true):=λ⟨n,v⟩ hy=>by
   rcases S.par n (List.of_mem_zip hy).1 with q | q
   . exact .inl q
   . exact .inr ⟨q,PySem.W.cellsFrom_some _ _ _ (.inl q)⟩
 refine codeAny_call_function hr.depth (KX _ _ lk) rfl S.co S.gen rfl (PySem.W.codeRec_of KX hcd) (hb _ _ _ _ ?_)
 refine wpAny_newFunctionEnv_cells S.kind hkind λenv he s1 x=>?_
 subst he
 refine⟨lim.keeps x.toInCall.keep,codeAny_func ?_⟩
 obtain⟨t,ht,hq⟩:=hbody A outer s H vs Q E (hr.deeper _) hsp
 have I:qr (jL CX P w K mg base N qual scope f cdv A outer s H E) [] (jU N vs) H s1:=YE S hr.hd e0 hl r x
 refine wpAny_mono (ht [] s1 (jU N vs) H _ I hq) (λfl s' hs=>?_) λe s' hs=>hs
 have fin:∀{σ':St} {H':Hp} {v:V} {u:Value},qr (jL CX P w K mg base N qual scope f cdv A outer s H E) [] σ' H' s'->qJ v u->Q v H'->CE outer P w H s Q u s':=
   λ{σ' H' v u} J rv q=>⟨v,H',J.os,J.bare,J.base,J.hok,rv,q⟩
 cases fl with
 | ret u=>
   obtain⟨v,σ',H',J,rv,q⟩:=hs
   exact fin J rv q
 | next=>
   obtain⟨σ',H',J,q⟩:=hs
   exact fin (v:=V.non) (u:=Value.none) J rfl q
 | brk=>
   obtain⟨_,_,_,q⟩:=hs
   exact False.elim q
 | cont=>
   obtain⟨_,_,_,q⟩:=hs
   exact False.elim q
end L2
namespace L2
open PySem PySem.Spec PyProof.Rows
section
variable {X:Cx} {x:Str} {p pos:Pos} {e:Expr} {es:List Expr} {t:TA} {id T:String} {r:List V->Hp->VK->Prop}
def wc (r:List V->Hp->VK->Prop) (t:TA):TE:=λσ H Q=>t σ H λvs H1=>r vs H1 Q
theorem qw (hc:j8 X (.builtin id) r) (hg:Gl X x) (hm:X.mg x=none) (hv:bootBuiltins x=some (.builtin id)) (ha:JA X (e::es) t) (hn:x≠"__name__":=by decide) (hdb:(x==("__debug__":Str))=false:=by decide) (he:starEach (e::es) X.env=(false,eval e X.env)::starEach es X.env:=by rfl) (hpl:(backTo pos (starEach es X.env)).any (·.1)=false:=by rfl):JE X (.Call (.Name x p) (e::es) [] pos) (wc r t):=.of (by
 have ha:=ha.to
 intro pins s σ H Q I h
 refine wpAny_Call_Name_kw (Qz I hg hm hv ?_ hn hdb)
 exact PyProof.Rows.callWith_builtin1 (je (ha pos pins s σ H _ I h) λus s1 ⟨vs,H1,I1,r1,q1⟩=>hc pins s1 σ H1 vs us Q I1 r1 q1) he hpl)
theorem qR (hc:j8 X (.type T) r) (hg:Gl X x) (hm:X.mg x=none) (hv:bootBuiltins x=some (.type T)) (ha:JA X (e::es) t) (hn:x≠"__name__":=by decide) (hdb:(x==("__debug__":Str))=false:=by decide) (he:starEach (e::es) X.env=(false,eval e X.env)::starEach es X.env:=by rfl) (hpl:(backTo pos (starEach es X.env)).any (·.1)=false:=by rfl):JE X (.Call (.Name x p) (e::es) [] pos) (wc r t):=.of (by
 have ha:=ha.to
 intro pins s σ H Q I h
 refine wpAny_Call_Name_kw (Qz I hg hm hv ?_ hn hdb)
 exact PyProof.Rows.callWith_type1 (je (ha pos pins s σ H _ I h) λus s1 ⟨vs,H1,I1,r1,q1⟩=>hc pins s1 σ H1 vs us Q I1 r1 q1) he hpl)
end
end L2
namespace HT
open PySem PyProof.Rows
section
open PySem.SeqAt
open PySem.AutoSeq1 (wpAny_loadPart')
open PySem.MeetsSeq PySem.MeetsSeq2 PySem.MeetsSeq3
end
section
variable {prog:Program} {w:World} {A:Around} {E:Value->Shared->Prop} {s:Shared}
def sIx (n d:Nat):Option Int->Nat
 | none=>d
 | some v=>if v < 0 then (v+(n:Int)).toNat else min v.toNat n
end
end HT
namespace L2
open PySem PySem.Spec PyProof.Rows
abbrev TO:=St->Hp->(Option Int->Hp->Prop)->Prop
def PO (X:Cx) (e:Option Expr) (t:TO):Prop:=
 ∀(pins:List (Addr×Obj)) (s:Shared) (σ:St) (H:Hp) (Q:Option Int->Hp->Prop),qr X pins σ H s->t σ H Q->
   wpAny (model X.prog X.w) X.A (evalPart e X.env) (λu s'=>∃o H',qr X pins σ H' s'/\IsPart u o/\Q o H') X.xe s
@[irreducible] def JO (X:Cx) (e:Option Expr) (t:TO):Prop:=PO X e t
theorem JO.of {X:Cx} {e:Option Expr} {t:TO} (h:PO X e t):JO X e t:=by unfold JO;exact h
theorem JO.to {X:Cx} {e:Option Expr} {t:TO} (h:JO X e t):PO X e t:=by unfold JO at h;exact h
def yG:TO:=λ_ H Q=>Q none H
def Kh (t:TE):TO:=λσ H Q=>t σ H λx H1=>∃i,x=.int i/\Q (some i) H1
theorem WV {ns:List Int}:∀{us:List Value},qC (ns.map V.int) us->IntsAre us ns:=by
 induction ns with
 | nil=>intro us r;rw[List.map_nil]at r;cases r;exact .nil
 | cons n ns ih=>
   intro us r
   rw[List.map_cons]at r
   cases r with
   | cons r1 r2=>
     obtain⟨t,e⟩:=r1
     subst e
     exact .cons n t (ih r2)
section
variable {X:Cx} {e:Expr} {te:TE} {lo hi:Option Expr} {tl th:TO} {pos p2:Pos}
theorem Xh:JO X none yG:=.of (by
 intro pins s σ H Q I h
 rw[evalPart_none]
 exact wpAny_pure ⟨none,H,I,.none,h⟩)
theorem Xg (h:JE X e te):JO X (some e) (Kh te):=.of (by
 have h:=h.to
 intro pins s σ H Q I hw
 rw[evalPart_some]
 refine je (h pins s σ H _ I hw) λu s1 ⟨x,H1,I1,r1,q1⟩=>?_
 obtain⟨i,rfl,q⟩:=q1
 obtain⟨t,rfl⟩:=r1
 exact⟨some i,H1,I1,.int i t,q⟩)
def RW (X:Cx) (r:V->Option Int->Option Int->Hp->VK->Prop):Prop:=
 ∀(pins:List (Addr×Obj)) (s:Shared) (σ:St) (H:Hp) (x:V) (v vl vu:Value) (lo hi:Option Int) (sl:Addr) (Q:VK),qr X pins σ H s->qJ x v->s.heap.IsSliceOf sl vl vu .none->IsPart vl lo->IsPart vu hi->r x lo hi H Q->
   ∃T id,typeLookup (.type T) "__getitem__"=pure (some (.builtin id))/\s.TypeIs v T/\wpAny (model X.prog X.w) X.A (getItem v (.ref sl)) (EP X pins σ Q) X.xe s
def tSl (r:V->Option Int->Option Int->Hp->VK->Prop) (te:TE) (tl th:TO):TE:=λσ H Q=>te σ H λx H1=>tl σ H1 λl H2=>th σ H2 λu H3=>r x l u H3 Q
theorem zK {r:V->Option Int->Option Int->Hp->VK->Prop} (hr:RW X r) (he:JE X e te) (hl:JO X lo tl) (hu:JO X hi th):JE X (.Subscript e (.Slice lo hi none p2) pos) (tSl r te tl th):=.of (by
 have he:=he.to
 have hl:=hl.to
 have hu:=hu.to
 intro pins s σ H Q I h
 refine Subscript_ (je (he pins s σ H _ I h) λv s1 ⟨x,H1,I1,r1,q1⟩=>?_)
 refine wpAny_Slice (je (hl pins s1 σ H1 _ I1 q1) λvl s2 ⟨l,H2,I2,pl,q2⟩=>je (hu pins s2 σ H2 _ I2 q2) λvu s3 ⟨u,H3,I3,pu,q3⟩=>?_)
 rw[evalPart_none]
 refine wpAny_pure ?_
 have I4:qr X pins σ H3 {s3 with heap:=s3.heap.push {cls:=.type "slice",data:=.fields #[vl,vu,.none]}}:=I3.kept (t':=s3.toks) λb ob q=>Heap.get?_push_of_some _ q
 obtain⟨T,id,hT,ht,hg⟩:=hr pins {s3 with heap:=s3.heap.push {cls:=.type "slice",data:=.fields #[vl,vu,.none]}} σ H3 x v vl vu l u s3.heap.objs.size Q I4 r1 (Heap.IsSliceOf.new ..) pl pu q3
 show wpAny (model X.prog X.w) X.A (subscriptTail e (.Slice lo hi none p2) v (.ref s3.heap.objs.size)) (EP X pins σ Q) X.xe {s3 with heap:=s3.heap.push {cls:=.type "slice",data:=.fields #[vl,vu,.none]}}
 exact tail_any (ops:=[.ref s3.heap.objs.size,v]) ht hT hg (by with_unfolding_all rfl))
def U0 (xs:List V) (lo hi:Option Int):List V:=(xs.drop (HT.sIx xs.length 0 lo)).take (HT.sIx xs.length xs.length hi - HT.sIx xs.length 0 lo)
theorem We (xs:List V) (lo hi:Option Int):(U0 xs lo hi).length<=xs.length:=by
 unfold U0
 rw[List.length_take,List.length_drop]
 omega
end
end L2
namespace L2
open PySem PySem.Spec PyProof.Rows
def yr (n:Nat) (i:Int):Option Nat:=if 0<=i then (if i < n then some i.toNat else none) else if -(n:Int)<=i then some (i+n).toNat else none
def Z9 {α:Type} (xs:List α) (i:Int):Option α:=(yr xs.length i).bind λj=>xs[j]?
theorem VR {n:Nat} {i:Int} {j:Nat} (h:yr n i=some j):seqIndex? i n=some j/\j < n/\-(n:Int)<=i/\i < n:=by
 unfold yr at h
 by_cases h0:0<=i
 . rw[if_pos h0]at h
   by_cases h1:i < n
   . rw[if_pos h1]at h
     have e:i.toNat=j:=Option.some.inj h
     exact⟨by rw[seqIndex_of h0 h1,e],by omega,by omega,h1⟩
   . rw[if_neg h1]at h;cases h
 . rw[if_neg h0]at h
   by_cases h1:-(n:Int)<=i
   . rw[if_pos h1]at h
     have e:(i+n).toNat=j:=Option.some.inj h
     exact⟨by rw[seqIndex_neg (by omega) h1,e],by omega,h1,by omega⟩
   . rw[if_neg h1]at h;cases h
theorem atI_get {α:Type} {xs:List α} {i:Int} {v:α} (h:Z9 xs i=some v):∃j,seqIndex? i xs.length=some j/\xs[j]?=some v/\j < xs.length/\-(xs.length:Int)<=i/\i < xs.length:=by
 unfold Z9 at h
 cases e:yr xs.length i with
 | none=>rw[e]at h;cases h
 | some j=>
   rw[e]at h
   obtain⟨h1,h2,h3,h4⟩:=VR e
   exact⟨j,h1,h,h2,h3,h4⟩
theorem Zq {α:Type} {xs:List α} {j:Nat} {v:α} (h:xs[j]?=some v):Z9 xs (j:Int)=some v:=by
 have hj:j < xs.length:=(List.getElem?_eq_some_iff.mp h).1
 have e:yr xs.length (j:Int)=some j:=by
   unfold yr
   rw[if_pos (by omega),if_pos (by omega)];simp
 unfold Z9;rw[e];exact h
def x3 (b:Expr):Prop:=∀o i,subscripted b false o i=operate [o,i] (getItem o i)
def GU (X:Cx) (r:R2):Prop:=
 ∀(value slice:Expr) (pins:List (Addr×Obj)) (s:Shared) (σ:St) (H:Hp) (x y:V) (v u:Value) (Q:VK),qr X pins σ H s->qJ x v->qJ y u->r x y H Q->
   subscripted slice false v u=operate [v,u] (getItem v u)->wpAny (model X.prog X.w) X.A (subscriptTail value slice v u) (EP X pins σ Q) X.xe s
def GS (X:Cx) (id:String) (r:V->List V->Hp->VK->Prop):Prop:=
 ∀(pins:List (Addr×Obj)) (s:Shared) (σ:St) (H:Hp) (x:V) (xs:List V) (v:Value) (us:List Value) (Q:VK),qr X pins σ H s->qJ x v->qC xs us->r x xs H Q->
   wpAny (model X.prog X.w) X.A (call (.builtin id) (v::us)) (EP X pins σ Q) X.xe s
section
variable {X:Cx} {a b:Expr} {ta tb:TE} {pos:Pos}
theorem qW {r:R2} (hr:GU X r) (ha:JE X a ta) (hb:JE X b tb) (hs:x3 b):JE X (.Subscript a b pos) (Xx r ta tb):=.of (by
 have ha:=ha.to
 have hb:=hb.to
 intro pins s σ H Q I h
 exact Subscript_ (uR ha hb I h λv u s2 x y H2 I2 rx ry q=>hr a b pins s2 σ H2 x y v u Q I2 rx ry q (hs _ _)))
def vL (K:PySem.W.Frag):R2:=λx y H Q=>∃p xs i v,x=.ref p/\y=.int i/\SqL K H p xs/\Z9 xs i=some v/\Q v H
def Ur (K:PySem.W.Frag):R2:=λx y H Q=>∃p xs i v,x=.ref p/\y=.int i/\SqT K H p xs/\Z9 xs i=some v/\Q v H
def Rr:R2:=λx y H Q=>∃z i c,x=.str z/\y=.int i/\z.length<=sizeLine/\Z9 z.cps.toList i=some c/\Q (.str ⟨#[c]⟩) H
theorem jg:GU X (vL X.K):=by
 intro value slice pins s σ H x y v u Q I rx ry h hs
 obtain⟨p,xs,i,z,rfl,rfl,hq,he,q⟩:=h
 cases rx
 obtain⟨t,rfl⟩:=ry
 obtain⟨its,r,pl,hz⟩:=I.list hq
 obtain⟨j,h1,h2,h3,h4,h5⟩:=atI_get he
 obtain⟨w,ew,rw'⟩:=r.get h2
 have hl:=r.length
 have hn:=Zz
 have fin:EP X pins σ Q w s:=⟨z,H,I,rw',q⟩
 by_cases h0:0<=i
 . have hj:i.toNat=j:=by
     rw[seqIndex_of h0 h5]at h1
     exact Option.some.inj h1
   exact item_listR pl.isList h0 (by omega) (by rw[hj];simpa using ew) fin hs
 . have hj:(i+(its.toArray.size:Int)).toNat=j:=by
     rw[seqIndex_neg (by omega) h4]at h1
     rw[List.size_toArray,<-hl]
     exact Option.some.inj h1
   exact subscriptTail_builtinR (x:=w) pl.isList.typeIs slot_list_getitem.lookup
     (wpAny_getItem_list_neg (Q:=λr s'=>r=w/\EP X pins σ Q r s') pl.isList (by omega) (by rw[List.size_toArray]<;>omega) (by omega) (by rw[hj];simpa using ew) ⟨rfl,fin⟩) hs
theorem jG:GU X (Ur X.K):=by
 intro value slice pins s σ H x y v u Q I rx ry h hs
 obtain⟨p,xs,i,z,rfl,rfl,hq,he,q⟩:=h
 cases rx
 obtain⟨t,rfl⟩:=ry
 obtain⟨its,r,pl,hz⟩:=I.tuple hq
 obtain⟨j,h1,h2,h3,h4,h5⟩:=atI_get he
 obtain⟨w,ew,rw'⟩:=r.get h2
 have hl:=r.length
 have hn:=Zz
 have fin:EP X pins σ Q w s:=⟨z,H,I,rw',q⟩
 exact subscriptTail_builtinR (x:=w) pl.typeIs slot_tuple_getitem.lookup
   (getItem_tuple (j:=j) (Q:=λr s'=>r=w/\EP X pins σ Q r s') pl (by omega) (by omega) (by rw[List.size_toArray,<-hl];exact h1) (by simpa using ew) ⟨rfl,fin⟩) hs
theorem kP:GU X Rr:=by
 intro value slice pins s σ H x y v u Q I rx ry h hs
 obtain⟨z,i,c,rfl,rfl,hz,he,q⟩:=h
 obtain⟨t,rfl⟩:=rx
 obtain⟨t',rfl⟩:=ry
 obtain⟨j,h1,h2,h3,h4,h5⟩:=atI_get he
 have hl:z.cps.toList.length=z.length:=by simp [Str.length]
 rw[hl]at h1 h4 h5
 have hn:=Zz
 exact tail_any (typeIs_str s z t) slot_str_getitem.lookup (getItem_str (c:=c) (by
   have e1:decide (i < -(2^63:Int))=false:=decide_eq_false (by omega)
   have e2:decide (i ≥ 2^63)=false:=decide_eq_false (by omega)
   rw[e1,e2,Bool.or_false]) (by rw[h1];simpa using h2) ⟨.str ⟨#[c]⟩,H,I.tok _,⟨_,rfl⟩,q⟩) hs
theorem WO (its:List Value) (n j:Nat) (u:Value):Obj.mapSeq (·.setIfInBounds j u) {cls:=.type "list",data:=.seq its.toArray n}={cls:=.type "list",data:=.seq (its.set j u).toArray n}:=by
 simp [Obj.mapSeq]
theorem qr.lst {pins:List (Addr×Obj)} {σ:St} {H:Hp} {s:Shared} {p:Addr} {xs:List V} (I:qr X pins σ H s) (h:H p=some (.lst xs)):
   ∃(its:List Value) (n:Nat),qC xs its/\s.heap.get? p=some {cls:=.type "list",data:=.seq its.toArray n}/\xs.length<=sizeLine:=by
 obtain⟨z,its,n,r,e⟩:=I.hok p _ h
 exact⟨its,n,r,e,z⟩
theorem qr.lstUpd {pins:List (Addr×Obj)} {σ:St} {H:Hp} {s:Shared} {p:Addr} {xs ys:List V} {its its':List Value} {n n':Nat} {f:Obj->Obj} (I:qr X pins σ H s) (h:H p=some (.lst xs))
   (ho:s.heap.get? p=some {cls:=.type "list",data:=.seq its.toArray n}) (hf:f {cls:=.type "list",data:=.seq its.toArray n}={cls:=.type "list",data:=.seq its'.toArray n'}) (r:qC ys its') (hz:ys.length<=sizeLine) (t:Nat):
   qr X pins σ (upd H p (.lst ys)) {s with heap:=s.heap.update p f,toks:=t}:=by
 have e:(s.heap.update p f).get? p=some {cls:=.type "list",data:=.seq its'.toArray n'}:=by
   rw[Heap.get?_update_self f ho (by rw[hf]<;>rfl),hf]
 refine I.write (x:=p) (e:=p) (by rw[h];trivial) (.inl rfl) (λb u hb q=>(Heap.get?_update_other _ _ (Ne.symm hb)).trans q) ⟨_,e⟩ ?_
 exact⟨hz,its',n',r,e⟩
def KD:V->V->V->Hp->(Hp->Prop)->Prop:=λo i v H Q=>∃p xs k j,o=.ref p/\i=.int k/\H p=some (.lst xs)/\yr xs.length k=some j/\Q (upd H p (.lst (xs.set j v)))
theorem XG:uT X KD:=by
 intro pins s σ H o i v ov iv u Q I ro ri rv h
 obtain⟨p,xs,k,j,rfl,rfl,hp,hj,q⟩:=h
 cases ro
 obtain⟨t,rfl⟩:=ri
 obtain⟨its,n,r,ho,hz⟩:=I.lst hp
 obtain⟨h1,h2,h3,h4⟩:=VR hj
 have hl:=r.length
 have hn:=Zz
 have I':qr X pins σ (upd H p (.lst (xs.set j v))) {s with heap:=s.heap.update p (Obj.mapSeq (·.setIfInBounds j u))}:=
   I.lstUpd hp ho (WO its n j u) (r.set rv j) (by rw[List.length_set];exact hz) s.toks
 by_cases h0:0<=k
 . have hk:k.toNat=j:=by
     rw[seqIndex_of h0 h4]at h1
     exact Option.some.inj h1
   exact PySem.W.ki_setAt ho h0 (by omega) (by rw[List.size_toArray,<-hl];exact h4) (by rw[hk];exact⟨_,I',q⟩)
 . have hk:(k+(its.toArray.size:Int)).toNat=j:=by
     rw[seqIndex_neg (by omega) h3]at h1
     rw[List.size_toArray,<-hl]
     exact Option.some.inj h1
   exact PySem.W.ki_setBack ho (by omega) (by rw[List.size_toArray,<-hl];exact h3) (by omega) (by rw[hk];exact⟨_,I',q⟩)
theorem YW (lo hi:Option Int) (n:Nat):(sliceBounds lo hi none n).1=((HT.sIx n 0 lo:Nat):Int)/\(sliceBounds lo hi none n).2.1=((HT.sIx n n hi:Nat):Int)/\(sliceBounds lo hi none n).2.2=1:=by
 refine⟨?_,?_,rfl⟩
 . cases lo with
   | none=>simp [sliceBounds,HT.sIx]
   | some i=>
     simp only[sliceBounds,HT.sIx,Option.getD_none,show (1:Int) > 0 by decide,if_true]
     by_cases h:i < 0
     . simp only[h,if_true]<;>omega
     . simp only[h,if_false]<;>omega
 . cases hi with
   | none=>simp [sliceBounds,HT.sIx]
   | some i=>
     simp only[sliceBounds,HT.sIx,Option.getD_none,show (1:Int) > 0 by decide,if_true]
     by_cases h:i < 0
     . simp only[h,if_true]<;>omega
     . simp only[h,if_false]<;>omega
theorem Ye (its:List Value) (lo hi:Option Int):slicePick its.toArray lo hi none=((its.drop (HT.sIx its.length 0 lo)).take (HT.sIx its.length its.length hi - HT.sIx its.length 0 lo)).toArray:=by
 obtain⟨h1,h2,h3⟩:=YW lo hi its.toArray.size
 unfold slicePick
 rw[h1,h2,h3]
 simp only[sliceRange_one,pick_run,List.size_toArray]<;>rfl
def Rq (K:PySem.W.Frag):V->Option Int->Option Int->Hp->VK->Prop:=λx lo hi H Q=>∃a xs,x=.ref a/\SqL K H a xs/\∀p,H p=none->Q (.ref p) (upd H p (.lst (U0 xs lo hi)))
theorem yR:RW X (Rq X.K):=by
 intro pins s σ H x v vl vu lo hi sl Q I rx hs pl pu h
 obtain⟨a,xs,rfl,hx,q⟩:=h
 cases rx
 obtain⟨its,r,ht,hz⟩:=I.list hx
 have hlen:=r.length
 refine⟨"list",_,slot_list_getitem.lookup,ht.isList.typeIs,?_⟩
 refine wpAny_getItem_list_slice ht.isList hs pl pu .none (by simp) ?_ (by rw[List.size_toArray]<;>omega)
 rw[Ye,<-hlen]
 refine⟨.ref s.heap.objs.size,_,I.laid (t':=s.toks) (o:=.lst (U0 xs lo hi)) (λb ob q=>Heap.get?_push_of_some _ q) (Nat.le_refl _) ?_,rfl,q _ (I.hok.fresh (Nat.le_refl _))⟩
 exact⟨Nat.le_trans (We xs lo hi) hz,_,0,(r.drop (HT.sIx xs.length 0 lo)).take (HT.sIx xs.length xs.length hi - HT.sIx xs.length 0 lo),Heap.get?_push_size _ rfl⟩
def Zm:V->Bool
 | .non=>true
 | .bl _=>true
 | .int _=>true
 | .str _=>true
 | _=>false
def xT:V->V->Bool
 | .non,.non=>true
 | .bl a,.bl b=>a==b
 | .bl a,.int b=>(if a then 1 else 0)==b
 | .int a,.bl b=>a==(if b then 1 else 0)
 | .int a,.int b=>a==b
 | .str a,.str b=>a==b
 | _,_=>false
theorem uP {A:Around} {s:Shared} {y x:V} {u v:Value} (ry:qJ y u) (rx:qJ x v) (fy:Zm y=true) (fx:Zm x=true):SeqAt.EqAt A s u v (xT y x):=by
 cases y with
 | non=>
   cases ry
   cases x with
   | non=>cases rx;exact SeqAt.EqAt.same _
   | bl b=>cases rx;exact SeqAt.EqAt.none_bool b
   | int b=>obtain⟨t,rfl⟩:=rx;exact SeqAt.EqAt.none_int b t
   | str b=>obtain⟨t,rfl⟩:=rx;exact SeqAt.EqAt.none_str b t
   | _=>exact absurd (show false=true from fx) Bool.false_ne_true
 | bl a=>
   cases ry
   cases x with
   | non=>cases rx;exact SeqAt.EqAt.bool_none a
   | bl b=>cases rx;exact SeqAt.EqAt.bool_bool a b
   | int b=>obtain⟨t,rfl⟩:=rx;exact SeqAt.EqAt.bool_int a b t
   | str b=>obtain⟨t,rfl⟩:=rx;exact SeqAt.EqAt.bool_str a b t
   | _=>exact absurd (show false=true from fx) Bool.false_ne_true
 | int a=>
   obtain⟨t',rfl⟩:=ry
   cases x with
   | non=>cases rx;exact SeqAt.EqAt.int_none a t'
   | bl b=>cases rx;exact SeqAt.EqAt.int_bool a t' b
   | int b=>obtain⟨t,rfl⟩:=rx;exact SeqAt.EqAt.int_int a t' b t
   | str b=>obtain⟨t,rfl⟩:=rx;exact SeqAt.EqAt.int_str a t' b t
   | _=>exact absurd (show false=true from fx) Bool.false_ne_true
 | str a=>
   obtain⟨t',rfl⟩:=ry
   cases x with
   | non=>cases rx;exact SeqAt.EqAt.str_none a t'
   | bl b=>cases rx;exact SeqAt.EqAt.str_bool a t' b
   | int b=>obtain⟨t,rfl⟩:=rx;exact SeqAt.EqAt.str_int a t' b t
   | str b=>obtain⟨t,rfl⟩:=rx;exact SeqAt.EqAt.str_str a t' b t
   | _=>exact absurd (show false=true from fx) Bool.false_ne_true
 | _=>exact absurd (show false=true from fy) Bool.false_ne_true
def WZ (x:V) (u:Value):Bool:=match u with
 | .none=>xT .non x
 | .bool b=>xT (.bl b) x
 | .int i _=>xT (.int i) x
 | .str z _=>xT (.str z) x
 | _=>false
theorem ya {x y:V} {u:Value} (r:qJ y u) (f:Zm y=true):WZ x u=xT y x:=by
 cases y with
 | non=>cases r;rfl
 | bl b=>cases r;rfl
 | int i=>obtain⟨t,rfl⟩:=r;rfl
 | str z=>obtain⟨t,rfl⟩:=r;rfl
 | _=>exact absurd (show false=true from f) Bool.false_ne_true
theorem Zr {x:V}:∀{xs:List V} {us:List Value},qC xs us->xs.all Zm=true->us.any (WZ x)=xs.any λy=>xT y x
 | _,_,.nil,_=>rfl
 | y::xs,u::us,.cons r t,f=>by
   rw[List.all_cons,Bool.and_eq_true]at f
   rw[List.any_cons,List.any_cons,ya r f.1,Zr t f.2]
theorem Je {A:Around} {s:Shared} {x:V} {v:Value} (rx:qJ x v) (fx:Zm x=true):∀{xs:List V} {us:List Value},qC xs us->xs.all Zm=true->∀u∈us,SeqAt.EqAt A s u v (WZ x u)
 | _,_,.nil,_=>λu hu=>by cases hu
 | y::xs,u::us,.cons r t,f=>λu' hu=>by
   rw[List.all_cons,Bool.and_eq_true]at f
   rcases List.mem_cons.mp hu with rfl | hu
   . rw[ya r f.1];exact uP r rx f.1 fx
   . exact Je rx fx t f.2 u' hu
def Z4 (x:V) (xs:List V):Bool:=xs.any λy=>xT y x
def Rt (K:PySem.W.Frag) (neg:Bool):R2:=λx y H Q=>∃p xs,y=.ref p/\(SqL K H p xs\/SqT K H p xs)/\Zm x=true/\xs.all Zm=true/\Q (.bl (if neg then !Z4 x xs else Z4 x xs)) H
theorem Yt:ZH X (compareOp .In) (Rt X.K false):=by
 intro pins s σ H x y v u Q I rx ry h
 obtain⟨p,xs,rfl,hq,fx,fs,q⟩:=h
 cases ry
 rcases hq with hq | hq
 . obtain⟨its,r,pl,hz⟩:=I.list hq
   refine SeqAt.in_listAt (WZ x) pl.isList (λw hw=>Je rx fx r fs w (by simpa using hw)) ⟨.bl _,H,I,rfl,?_⟩
   rw[show its.toArray.any (WZ x)=its.any (WZ x) by simp,Zr r fs]
   exact q
 . obtain⟨its,r,pl,hz⟩:=I.tuple hq
   refine SeqAt.in_tupleAt (WZ x) pl (λw hw=>Je rx fx r fs w (by simpa using hw)) ⟨.bl _,H,I,rfl,?_⟩
   rw[show its.toArray.any (WZ x)=its.any (WZ x) by simp,Zr r fs]
   exact q
theorem Zh:ZH X (compareOp .NotIn) (Rt X.K true):=by
 intro pins s σ H x y v u Q I rx ry h
 obtain⟨p,xs,rfl,hq,fx,fs,q⟩:=h
 cases ry
 rcases hq with hq | hq
 . obtain⟨its,r,pl,hz⟩:=I.list hq
   refine SeqAt.notIn_listAt (WZ x) pl.isList (λw hw=>Je rx fx r fs w (by simpa using hw)) ⟨.bl _,H,I,rfl,?_⟩
   rw[show its.toArray.any (WZ x)=its.any (WZ x) by simp,Zr r fs]
   exact q
 . obtain⟨its,r,pl,hz⟩:=I.tuple hq
   refine SeqAt.notIn_tupleAt (WZ x) pl (λw hw=>Je rx fx r fs w (by simpa using hw)) ⟨.bl _,H,I,rfl,?_⟩
   rw[show its.toArray.any (WZ x)=its.any (WZ x) by simp,Zr r fs]
   exact q
theorem qz:j8 X (.builtin "len") (λxs H Q=>∃p ys,xs=[.ref p]/\(SqL X.K H p ys\/SqT X.K H p ys)/\Q (.int ys.length) H):=by
 intro pins s σ H xs us Q I r h
 obtain⟨p,ys,rfl,hq,q⟩:=h
 obtain⟨u,rfl,rx⟩:=Qu r
 cases rx
 have hn:=Zz
 rcases hq with hq | hq
 . obtain⟨its,r',pl,hz⟩:=I.list hq
   have hlen:=r'.length
   exact Calls.call_len_list pl.isList (by simp only[List.size_toArray]<;>omega) ⟨.int ys.length,H,I.tok _,⟨s.toks+1,by rw[List.size_toArray,hlen]⟩,q⟩
 . obtain⟨its,r',pl,hz⟩:=I.tuple hq
   have hlen:=r'.length
   exact len_tuple pl (by simp only[List.size_toArray]<;>omega) ⟨.int ys.length,H,I.tok _,⟨s.toks+1,by rw[List.size_toArray,hlen]⟩,q⟩
theorem QX:j8 X (.builtin "len") (λxs H Q=>∃z,xs=[.str z]/\z.length<=sizeLine/\Q (.int z.length) H):=by
 intro pins s σ H xs us Q I r h
 obtain⟨z,rfl,hz,q⟩:=h
 obtain⟨u,rfl,t,rfl⟩:=Qu r
 have hn:=Zz
 exact len_str (by omega) ⟨.int z.length,H,I.tok _,⟨_,rfl⟩,q⟩
theorem qT:j8 X (.type "list") (λxs H Q=>∃p ys,xs=[.ref p]/\(SqL X.K H p ys\/SqT X.K H p ys)/\∀l,H l=none->Q (.ref l) (upd H l (.lst ys))):=by
 intro pins s σ H xs us Q I r h
 obtain⟨p,ys,rfl,hq,q⟩:=h
 obtain⟨u,rfl,rx⟩:=Qu r
 cases rx
 have fin:∀(its:List Value),qC ys its->ys.length<=sizeLine->∀(h':Heap) (c':Nat),(∀b o',s.heap.get? b=some o'->h'.get? b=some o')->
     h'.get? s.heap.objs.size=some {cls:=.type "list",dict:=none,data:=.seq its.toArray c',slots:=#[]}->EP X pins σ Q (.ref s.heap.objs.size) {s with heap:=h'}:=λits r' hz h' c' kp e=>
   ⟨.ref s.heap.objs.size,_,I.laid (t':=s.toks) kp (Nat.le_refl _) (show qB X.prog X.w _ h' _ (.lst ys) from⟨hz,its,c',r',e⟩),rfl,q _ (I.hok.fresh (Nat.le_refl _))⟩
 rcases hq with hq | hq
 . obtain⟨its,r',pl,hz⟩:=I.list hq
   have hlen:=r'.length
   obtain⟨o,ho,hc,n,hd⟩:=pl.isList
   exact call_list_seq p (.inl rfl) ho hc hd (λh' c' kp e=>fin its r' hz h' c' kp e) (by simp only[List.size_toArray]<;>omega)
 . obtain⟨its,r',pl,hz⟩:=I.tuple hq
   have hlen:=r'.length
   obtain⟨o,ho,hc,n,hd⟩:=pl
   exact call_list_seq p (.inr rfl) ho hc hd (λh' c' kp e=>fin its r' hz h' c' kp e) (by simp only[List.size_toArray]<;>omega)
theorem Yh:j8 X (.type "tuple") (λxs H Q=>∃p ys,xs=[.ref p]/\((SqL X.K H p ys/\∀l,H l=none->Q (.ref l) (upd H l (.tup ys)))\/(SqT X.K H p ys/\Q (.ref p) H))):=by
 intro pins s σ H xs us Q I r h
 obtain⟨p,ys,rfl,h⟩:=h
 obtain⟨u,rfl,rx⟩:=Qu r
 cases rx
 rcases h with ⟨hq,q⟩ | ⟨hq,q⟩
 . obtain⟨its,r',pl,hz⟩:=I.list hq
   have hlen:=r'.length
   refine call_tuple_list pl.isList (λh' kp=>?_) (by simp only[List.size_toArray]<;>omega)
   have I1:qr X pins σ H {s with heap:=h'}:=I.kept (t':=s.toks) kp
   have I2:qr X pins σ (upd H h'.objs.size (.tup ys)) {s with heap:=h'.push {cls:=.type "tuple",data:=.seq its.toArray}}:=
     I1.laid (t':=s.toks) (λb o e=>Heap.get?_push_of_some _ e) (Nat.le_refl _) (show qB X.prog X.w _ _ _ (.tup ys) from⟨hz,its,r',IsTup.new _ _⟩)
   exact⟨.ref h'.objs.size,_,I2,rfl,q _ (I1.hok.fresh (Nat.le_refl _))⟩
 . obtain⟨its,r',pl,hz⟩:=I.tuple hq
   exact call_tuple_same pl ⟨.ref p,H,I,rfl,q⟩
def GV (K:PySem.W.Frag) (T:String) (x:V) (H:Hp):Prop:=match x with
 | .str _=>T="str"
 | .int _=>T="int"
 | .ref p=>(T="list"/\∃xs,SqL K H p xs)\/(T="tuple"/\∃o,K.lookup p=some o/\o.cls=.type "tuple"/\o.dict=none)\/
     (T="dict"/\((∃kvs,H p=some (.dK kvs))\/∃kvs,H p=some (.dT kvs)))\/(T="set"/\∃S n,H p=some (.set S n))
 | _=>False
theorem vd {pins:List (Addr×Obj)} {σ:St} {H:Hp} {s:Shared} {T:String} {x:V} {v:Value} (I:qr X pins σ H s) (r:qJ x v) (ty:GV X.K T x H):
   s.TypeIs v T/\∀a,v=.ref a->∃ob,s.heap.get? a=some ob/\ob.dict=none:=by
 cases x with
 | str z=>
   obtain⟨t,rfl⟩:=r
   cases (show T="str" from ty)
   exact⟨typeIs_str s z t,λ_ e=>nomatch e⟩
 | int i=>
   obtain⟨t,rfl⟩:=r
   cases (show T="int" from ty)
   exact⟨typeIs_int s i t,λ_ e=>nomatch e⟩
 | ref p=>
   cases r
   rcases ty with ⟨rfl,xs,hq⟩ | ⟨rfl,o,hk,hc,hd⟩ | ⟨rfl,hk⟩ | ⟨rfl,S,n,hk⟩
   . obtain⟨its,_,pl,_⟩:=I.list hq
     refine⟨pl.isList.typeIs,λa e=>?_⟩
     cases e
     obtain⟨o,n,e,c,hd,_⟩:=pl
     exact⟨o,e,hd⟩
   . refine⟨⟨o,I.kIn p o hk,hc⟩,λa e=>?_⟩
     cases e
     exact⟨o,I.kIn _ o hk,hd⟩
   . have z:∃o,s.heap.get? p=some o/\o.ExactDict:=by
       rcases hk with ⟨kvs,hk⟩ | ⟨kvs,hk⟩
       . obtain⟨_,_,_,_,o,_,_,e,ex,_⟩:=I.hok p _ hk
         exact⟨o,e,ex⟩
       . obtain⟨_,_,_,_,o,_,_,e,ex,_⟩:=I.hok p _ hk
         exact⟨o,e,ex⟩
     obtain⟨o,e,ex⟩:=z
     refine⟨⟨o,e,ex.1⟩,λa e2=>?_⟩
     cases e2
     exact⟨o,e,ex.2.1⟩
   . obtain⟨o,_,_,_,e,ex,_⟩:=I.hok p _ hk
     refine⟨⟨o,e,ex.1⟩,λa e2=>?_⟩
     cases e2
     exact⟨o,e,ex.2.1⟩
 | _=>exact False.elim ty
def Rb (K:PySem.W.Frag) (T:String) (r:V->List V->Hp->VK->Prop) (to:TE):TE:=λσ H Q=>to σ H λx H1=>GV K T x H1/\r x [] H1 Q
def Rc (K:PySem.W.Frag) (T:String) (r:V->List V->Hp->VK->Prop) (to:TE) (t:TA):TE:=λσ H Q=>to σ H λx H1=>GV K T x H1/\t σ H1 λxs H2=>r x xs H2 Q
variable {o e:Expr} {es:List Expr} {to:TE} {t:TA} {name:Str} {apos cpos:Pos} {T id:String} {r:V->List V->Hp->VK->Prop}
theorem uG (pa:PlainAttrs T) (slot:Slot T name id) (hty:typeOf (.builtin id)=pure (.type "method_descriptor")) (hm:GS X id r) (ho:JE X o to) (hbase:attributeBase o name X.env (eval o X.env)=eval o X.env:=by rfl) (hline:(apos.endLine==cpos.line)=true:=by rfl):JE X (.Call (.Attribute o name apos) [] [] cpos) (Rb X.K T r to):=.of (by
 have ho:=ho.to
 intro pins s σ H Q I h
 refine wpAny_Call_method0_late hbase hline (je (ho pins s σ H _ I h) λv s1 ⟨x,H1,I1,r1,ty,q1⟩=>?_)
 obtain⟨h1,h2⟩:=vd I1 r1 ty
 exact⟨T,id,pa,slot,hty,h1,h2,Calls.callWith_builtin rfl (PySem.evalArgs_none (hm pins s1 σ H1 x [] v [] Q I1 r1 .nil q1))⟩)
theorem KL (pa:PlainAttrs T) (slot:Slot T name id) (hty:typeOf (.builtin id)=pure (.type "method_descriptor")) (hm:GS X id r) (ho:PE X o to) (ha:PA X (e::es) t)
   (hbase:attributeBase o name X.env (eval o X.env)=eval o X.env:=by rfl)
   (hfew:((backTo cpos (starEach (e::es) X.env)).all (λx=> !x.1)&&(backToKw cpos (keywordEach [] X.env)).all (λx=>x.1.isSome)
     &&decide ((e::es).length+([]:List Keyword).length+(if ([]:List Keyword).isEmpty then 0 else 1) < 30))=true:=by rfl)
   (hline:(apos.endLine==cpos.line)=true:=by rfl) (hs:starEach (e::es) X.env=(false,eval e X.env)::starEach es X.env:=by rfl) (hplain:(backTo cpos (starEach es X.env)).any (·.1)=false:=by rfl):
   PE X (.Call (.Attribute o name apos) (e::es) [] cpos) (Rc X.K T r to t):=by
 intro pins s σ H Q I h
 refine wpAny_Call_method_late hbase hfew hline rfl (je (ho pins s σ H _ I h) λv s1 ⟨x,H1,I1,r1,ty,q1⟩=>?_)
 obtain⟨h1,h2⟩:=vd I1 r1 ty
 refine⟨T,id,pa,slot,hty,h1,h2,?_⟩
 have hA:=ha cpos pins s1 σ H1 _ I1 q1
 rw[hs]at hA ⊢
 refine Calls.callWith_builtin (by show (false || (backTo cpos (starEach es X.env)).any (·.1))=false;rw[hplain]<;>rfl) (Calls.evalArgs_plain ?_)
 exact je hA λus s2 ⟨vs,H2,I2,r2,q2⟩=>hm pins s2 σ H2 x vs v us Q I2 r1 r2 q2
theorem Q0 (pa:PlainAttrs T) (slot:Slot T name id) (hty:typeOf (.builtin id)=pure (.type "method_descriptor")) (hm:GS X id r) (ho:JE X o to) (ha:JA X (e::es) t) (hbase:attributeBase o name X.env (eval o X.env)=eval o X.env:=by rfl) (hfew:((backTo cpos (starEach (e::es) X.env)).all (λx=> !x.1)&&(backToKw cpos (keywordEach [] X.env)).all (λx=>x.1.isSome)
     &&decide ((e::es).length+([]:List Keyword).length+(if ([]:List Keyword).isEmpty then 0 else 1) < 30))=true:=by rfl) (hline:(apos.endLine==cpos.line)=true:=by rfl) (hs:starEach (e::es) X.env=(false,eval e X.env)::starEach es X.env:=by rfl) (hplain:(backTo cpos (starEach es X.env)).any (·.1)=false:=by rfl):JE X (.Call (.Attribute o name apos) (e::es) [] cpos) (Rc X.K T r to t):=.of (KL pa slot hty hm ho.to ha.to hbase hfew hline hs hplain)
end
end L2
namespace L2
open PySem PySem.Spec PyProof.Rows
def RZ (X:Cx) (id:String) (r:V->List V->Hp->VK->Prop):Prop:=
 ∀(pins:List (Addr×Obj)) (s:Shared) (σ:St) (H:Hp) (x:V) (xs:List V) (v:Value) (us:List Value) (Q:VK),qr X pins σ H s->qJ x v->qC xs us->r x xs H Q->
   wpAny (model X.prog X.w) X.A (call (.builtin id) (v::us)) (EP X pins σ Q) X.xe s
theorem qC.one:∀{x:V} {us:List Value},qC [x] us->∃u,us=[u]/\qJ x u
 | _,_,.cons r .nil=>⟨_,rfl,r⟩
theorem qC.zero:∀{us:List Value},qC [] us->us=[]
 | _,.nil=>rfl
theorem qC.reverse {xs:List V} {us:List Value} (h:qC xs us):qC xs.reverse us.reverse:=by
 induction h with
 | nil=>exact .nil
 | cons r t ih=>rw[List.reverse_cons,List.reverse_cons];exact qC.append ih (.cons r .nil)
section
variable {X:Cx} {pins:List (Addr×Obj)} {σ:St} {H:Hp} {s:Shared} {l b:Addr} {xs ys zs:List V}
theorem qr.lset {its its':List Value} {n:Nat} {f:Array Value->Array Value} {t':Nat} (I:qr X pins σ H s) (hH:H l=some (.lst xs))
   (e:s.heap.get? l=some {cls:=.type "list",data:=.seq its.toArray n}) (hf:f its.toArray=its'.toArray) (hv:qC ys its') (hz:ys.length<=sizeLine):
   qr X pins σ (upd H l (.lst ys)) {s with heap:=s.heap.update l (Obj.mapSeq f),toks:=t'}:=by
 have q:=PySem.IsL.update e f
 rw[hf]at q
 refine I.write (x:=l) (e:=l) (by rw[hH];exact trivial) (.inl rfl) (λb' u hb hu=>(Heap.get?_update_other s.heap (Obj.mapSeq f) (Ne.symm hb)).trans hu) ⟨_,q⟩ ?_
 exact⟨hz,its',_,hv,q⟩
theorem qr.lstM (I:qr X pins σ H s) (hH:H l=some (.lst xs)):xs.length<=sizeLine/\∃(its:List Value) (n:Nat),qC xs its/\xs.length=its.length/\s.heap.get? l=some {cls:=.type "list",data:=.seq its.toArray n}:=by
 obtain⟨z,its,n,r,e⟩:=I.hok l _ hH
 exact⟨z,its,n,r,r.length,e⟩
theorem ko {n:Nat} (h:n<=sizeLine):Builtin.List.listTooLong n=false:=by
 unfold Builtin.List.listTooLong
 exact decide_eq_false (by omega)
end
section
variable {X:Cx}
def VC:V->List V->Hp->VK->Prop:=λx vs H Q=>∃l xs y,x=.ref l/\vs=[y]/\H l=some (.lst xs)/\xs.length < sizeLine/\Q .non (upd H l (.lst (xs++[y])))
theorem ju:RZ X "list.append" VC:=by
 intro pins s σ H x vs v us Q I rx rv h
 obtain⟨l,xs,y,rfl,rfl,hH,hz,q⟩:=h
 cases rx
 obtain⟨u,rfl,ru⟩:=rv.one
 obtain⟨z,its,n,r,hl,e⟩:=I.lstM hH
 refine call_meets F.slot_list_append ⟨_,e,rfl⟩ F.entry_list_append (F.args_list_append_2 _ _) (PySem.list_append l its.toArray n u (by rw[List.size_toArray];omega)) ⟨e,?_⟩
 refine⟨.non,_,I.lset (its':=its++[u]) hH e (by simp) (r.append (.cons ru .nil)) ?_,rfl,q⟩
 rw[List.length_append,List.length_singleton]
 omega
def y9:V->List V->Hp->VK->Prop:=λx vs H Q=>∃l b xs zs,x=.ref l/\vs=[.ref b]/\H l=some (.lst xs)/\H b=some (.lst zs)/\xs.length+zs.length<=sizeLine/\Q .non (upd H l (.lst (xs++zs)))
theorem UF:RZ X "list.extend" y9:=by
 intro pins s σ H x vs v us Q I rx rv h
 obtain⟨l,b,xs,zs,rfl,rfl,hH,hB,hz,q⟩:=h
 cases rx
 obtain⟨u,rfl,ru⟩:=rv.one
 cases ru
 obtain⟨z,its,n,r,hl,e⟩:=I.lstM hH
 obtain⟨z2,its2,n2,r2,hl2,e2⟩:=I.lstM hB
 have hsz:its.toArray.size+its2.toArray.size<=sizeLine:=by rw[List.size_toArray,List.size_toArray];omega
 have hlong:¬(!its.toArray.isEmpty&&Builtin.List.listTooLong (its.toArray.size+its2.toArray.size))=true:=by
   rw[ko hsz,Bool.and_false]
   exact Bool.false_ne_true
 refine call_meets F.slot_list_extend ⟨_,e,rfl⟩ F.entry_list_extend (F.args_list_extend_2 _ _)
   (AutoSeq1.list_extend_list_list_0 l its.toArray n b its2.toArray n2 hlong (by rw[List.size_toArray];omega) (by omega)) ⟨e,e2,?_⟩
 refine⟨.non,_,I.lset (its':=its++its2) hH e (by simp) (r.append r2) ?_,rfl,q⟩
 rw[List.length_append]
 omega
def vK:V->List V->Hp->VK->Prop:=λx vs H Q=>∃l xs,x=.ref l/\vs=[]/\H l=some (.lst xs)/\Q .non (upd H l (.lst xs.reverse))
theorem WN:RZ X "list.reverse" vK:=by
 intro pins s σ H x vs v us Q I rx rv h
 obtain⟨l,xs,rfl,rfl,hH,q⟩:=h
 cases rx
 have hus:=rv.zero
 subst hus
 obtain⟨z,its,n,r,hl,e⟩:=I.lstM hH
 refine call_meets F.slot_list_reverse ⟨_,e,rfl⟩ F.entry_list_reverse (F.args_list_reverse_1 _) (AutoSeq1.list_reverse_list_0 l its.toArray n (by rw[List.size_toArray];omega)) ⟨e,?_⟩
 refine⟨.non,_,I.lset (its':=its.reverse) hH e (by simp) r.reverse ?_,rfl,q⟩
 rw[List.length_reverse]
 omega
end
section
variable {prog:Program} {w:World} {A:Around} {E:Value->Shared->Prop} {s:Shared}
set_option maxRecDepth 100000 in
end
section
variable {X:Cx}
end
end L2
namespace L2
open PySem PySem.Spec PyProof.Rows
section
variable {κ:Type} [DecidableEq κ]
def js (kvs:List (κ×V)) (k:κ):Option V:=(kvs.find? λkv=>decide (kv.1=k)).map (·.2)
def jD (kvs:List (κ×V)) (k:κ) (v:V):List (κ×V):=
 if (kvs.any λkv=>decide (kv.1=k))=true then kvs.map (λkv=>if kv.1=k then (kv.1,v) else kv) else kvs++[(k,v)]
theorem qK {p:κ×V} {r:List (κ×V)} {k:κ} (e:p.1=k):js (p::r) k=some p.2:=by simp [js,List.find?_cons,e]
theorem qG {p:κ×V} {r:List (κ×V)} {k:κ} (e:¬p.1=k):js (p::r) k=js r k:=by simp [js,List.find?_cons,e]
theorem QG (k:κ):∀kvs:List (κ×V),(kvs.any λkv=>decide (kv.1=k))=(js kvs k).isSome
 | []=>rfl
 | p::r=>by
   rw[List.any_cons]
   by_cases e:p.1=k
   . simp only[qK e,decide_eq_true e,Bool.true_or,Option.isSome_some]
   . rw[qG e,decide_eq_false e,Bool.false_or];exact QG k r
theorem XA (k j:κ) (y:V):∀kvs:List (κ×V),js (kvs.map λkv=>if kv.1=k then (kv.1,y) else kv) j=(js kvs j).map λx=>if j=k then y else x
 | []=>rfl
 | p::r=>by
   have ih:=XA k j y r
   rw[List.map_cons]
   by_cases h:p.1=k
   . rw[if_pos h]
     by_cases e:p.1=j
     . rw[qK (p:=(p.1,y)) e,qK e,Option.map_some,if_pos (e.symm.trans h)]
     . rw[qG (p:=(p.1,y)) e,qG e,ih]
   . rw[if_neg h]
     by_cases e:p.1=j
     . rw[qK (p:=p) e,qK e,Option.map_some,if_neg (λz=>h (e.trans z))]
     . rw[qG (p:=p) e,qG e,ih]
theorem Yk (k j:κ) (y:V):∀kvs:List (κ×V),js kvs k=none->js (kvs++[(k,y)]) j=if j=k then some y else js kvs j
 | [],_=>by
   by_cases e:k=j
   . rw[if_pos e.symm];exact qK (p:=(k,y)) e
   . rw[if_neg (λz=>e z.symm)];exact qG (p:=(k,y)) e
 | p::r,hn=>by
   rw[List.cons_append]
   have hk:¬p.1=k:=λz=>by rw[qK z]at hn;cases hn
   rw[qG hk]at hn
   have ih:=Yk k j y r hn
   by_cases e:p.1=j
   . rw[qK e,qK e,if_neg (λz=>hk (e.trans z))]
   . rw[qG e,qG e,ih]
theorem Xz (kvs:List (κ×V)) (k j:κ) (y:V):js (jD kvs k y) j=if j=k then some y else js kvs j:=by
 unfold jD
 by_cases a:(kvs.any λkv=>decide (kv.1=k))=true
 . rw[if_pos a,XA]
   rw[QG]at a
   by_cases e:j=k
   . obtain⟨x,hx⟩:=Option.isSome_iff_exists.mp a
     rw[if_pos e,e,hx,Option.map_some,if_pos rfl]
   . rw[if_neg e]
     cases js kvs j with
     | none=>rfl
     | some x=>rw[Option.map_some,if_neg e]
 . rw[if_neg a]
   refine Yk k j y kvs ?_
   rw[QG]at a
   cases q:js kvs k with
   | none=>rfl
   | some x=>rw[q]at a;exact(a rfl).elim
theorem Jf (kvs:List (κ×V)) (k:κ) (v:V):(jD kvs k v).length<=kvs.length+1:=by
 unfold jD
 split
 . rw[List.length_map];omega
 . rw[List.length_append,List.length_cons,List.length_nil];omega
theorem XJ {kvs:List (κ×V)} {k:κ} (v:V) (h:js kvs k=none):jD kvs k v=kvs++[(k,v)]:=by
 unfold jD
 rw[QG,h]
 exact if_neg (by decide)
theorem Q6.isSome_eq {o:Option V} {u:Option Value} (r:Q6 o u):o.isSome=u.isSome:=by
 cases o with
 | none=>cases u with
   | none=>rfl
   | some _=>exact(show False from r).elim
 | some _=>cases u with
   | none=>exact(show False from r).elim
   | some _=>rfl
theorem KV.val {kvs:List (κ×V)} {vs:List (κ×Value)} (r:KV kvs vs) (k:κ):Q6 (js kvs k) (valueAt vs k):=by
 unfold KV at r
 induction r with
 | nil=>exact True.intro
 | @cons p q ps qs h t ih=>
   obtain⟨h1,h2⟩:=h
   by_cases e:p.1=k
   . have e':q.1=k:=h1.symm.trans e
     have b:valueAt (q::qs) k=some q.2:=by simp [valueAt,List.find?_cons,e']
     rw[qK e,b];exact h2
   . have e':¬q.1=k:=λz=>e (h1.trans z)
     have b:valueAt (q::qs) k=valueAt qs k:=by simp [valueAt,List.find?_cons,e']
     rw[qG e,b];exact ih
theorem KV.any {kvs:List (κ×V)} {vs:List (κ×Value)} (r:KV kvs vs) (k:κ):(kvs.any λkv=>decide (kv.1=k))=vs.any λkv=>decide (kv.1=k):=by
 unfold KV at r
 induction r with
 | nil=>rfl
 | cons h t ih=>rw[List.any_cons,List.any_cons,ih,h.1]
theorem KV.repl {kvs:List (κ×V)} {vs:List (κ×Value)} (r:KV kvs vs) (k:κ) {y:V} {u:Value} (ry:qJ y u):
   KV (kvs.map λkv=>if kv.1=k then (kv.1,y) else kv) (vs.map λkv=>if kv.1=k then (kv.1,u) else kv):=by
 unfold KV at r ⊢
 induction r with
 | nil=>exact .nil
 | @cons p q ps qs h t ih=>
   rw[List.map_cons,List.map_cons]
   refine .cons ?_ ih
   obtain⟨h1,h2⟩:=h
   by_cases e:p.1=k
   . rw[if_pos e,if_pos (h1.symm.trans e)];exact⟨h1,ry⟩
   . rw[if_neg e,if_neg (λz=>e (h1.trans z))];exact⟨h1,h2⟩
theorem KV.put {kvs:List (κ×V)} {vs:List (κ×Value)} (r:KV kvs vs) (k:κ) {y:V} {u:Value} (ry:qJ y u):KV (jD kvs k y) (stored vs k u):=by
 unfold jD stored
 rw[r.any k]
 by_cases e:(vs.any λkv=>decide (kv.1=k))=true
 . rw[if_pos e,if_pos e];exact r.repl k ry
 . rw[if_neg e,if_neg e];exact Paired.snoc r ⟨rfl,ry⟩
theorem KV.length {kvs:List (κ×V)} {vs:List (κ×Value)} (r:KV kvs vs):kvs.length=vs.length:=Paired.length r
end
theorem zG {P:Program} {w:World} {k:qQ} {u:Value} (r:qJ (kV k) u):(jh P w).is k u=true:=by
 cases k with
 | inl i=>obtain⟨t,e⟩:=(show ∃t,u=Value.int i t from r);subst e;exact XW P w i t
 | inr x=>obtain⟨t,e⟩:=(show ∃t,u=Value.str x t from r);subst e;exact XV P w x t
theorem YC {P:Program} {w:World}:∀{ks:List qQ} {us:List Value},qC (ks.map kV) us->ItemsAre (jh P w) ks us
 | [],_,r=>by rw[List.map_nil]at r;cases r;exact .nil
 | k::ks,_,r=>by
   rw[List.map_cons]at r
   cases r with
   | cons h t=>exact .cons (zG h) (YC t)
abbrev KT (H:Hp):List (List qQ×V)->List (List qQ×Addr×Value)->Prop:=Paired λp q=>p.1=q.1/\H q.2.1=some (.tup (p.1.map kV))/\qJ p.2 q.2.2
theorem KT.val {H:Hp} {kvs:List (List qQ×V)} {xs:List (List qQ×Addr×Value)} (r:KT H kvs xs) (k:List qQ):Q6 (js kvs k) ((atKey xs k).map (·.2)):=by
 induction r with
 | nil=>exact True.intro
 | @cons p q ps qs h t ih=>
   obtain⟨h1,_,h2⟩:=h
   by_cases e:p.1=k
   . have e':q.1=k:=h1.symm.trans e
     have b:atKey (q::qs) k=some q.2:=by simp [atKey,List.find?_cons,e']
     rw[qK e,b];exact h2
   . have e':¬q.1=k:=λz=>e (h1.trans z)
     have b:atKey (q::qs) k=atKey qs k:=by simp [atKey,List.find?_cons,e']
     rw[qG e,b];exact ih
theorem KT.repl {H:Hp} {kvs:List (List qQ×V)} {xs:List (List qQ×Addr×Value)} (r:KT H kvs xs) (k:List qQ) {y:V} {u:Value} (ry:qJ y u):
   KT H (kvs.map λkv=>if kv.1=k then (kv.1,y) else kv) (xs.map (putAt k u)):=by
 induction r with
 | nil=>exact .nil
 | @cons p q ps qs h t ih=>
   rw[List.map_cons,List.map_cons]
   refine .cons ?_ ih
   obtain⟨h1,h2,h3⟩:=h
   unfold putAt
   by_cases e:p.1=k
   . rw[if_pos e,if_pos (h1.symm.trans e)];exact⟨h1,h2,ry⟩
   . rw[if_neg e,if_neg (λz=>e (h1.trans z))];exact⟨h1,h2,h3⟩
theorem KT.put {H:Hp} {kvs:List (List qQ×V)} {xs:List (List qQ×Addr×Value)} (r:KT H kvs xs) (k:List qQ) {b:Addr} {y:V} {u:Value} (hb:H b=some (.tup (k.map kV))) (ry:qJ y u):
   KT H (jD kvs k y) (storedH xs k b u):=by
 have e:(kvs.any λkv=>decide (kv.1=k))=(atKey xs k).isSome:=by
   rw[QG,(r.val k).isSome_eq,Option.isSome_map]
 unfold jD storedH
 rw[e]
 by_cases q:(atKey xs k).isSome=true
 . rw[if_pos q,if_pos q];exact r.repl k ry
 . rw[if_neg q,if_neg q];exact Paired.snoc r ⟨rfl,hb,ry⟩
theorem KT.keeps {H H':Hp} {kvs:List (List qQ×V)} {xs:List (List qQ×Addr×Value)} (r:KT H kvs xs) (ht:∀b ys,H b=some (.tup ys)->H' b=some (.tup ys)):KT H' kvs xs:=
 Paired.mapP r λ_ _ z=>⟨z.1,ht _ _ z.2.1,z.2.2⟩
section
variable {P:Program} {w:World} {H:Hp} {h:Heap} {a:Addr}
theorem wy {u:HO} (ok:Q1 P w H h) (e:Rd H a u):qB P w H h a u:=e.ok ok
theorem YI {kvs:List (qQ×V)} (ok:Q1 P w H h) (e:Rd H a (.dK kvs)):kvs.length<=sizeLine/\(a==sysModules)=false/\∃vs,KV kvs vs/\h.DictOf (jh P w) a vs:=
 show qB P w H h a (.dK kvs) from wy ok e
theorem VY {kvs:List (qQ×V)} (ok:Q1 P w H h) (e:H a=some (.dK kvs)):kvs.length<=sizeLine/\(a==sysModules)=false/\∃vs,KV kvs vs/\h.DictOf (jh P w) a vs:=YI ok (.inl e)
theorem zF {ks:List qQ} (ok:Q1 P w H h) (e:H a=some (.tup (ks.map kV))):(tupleKind (jh P w)).is h ks a:=by
 obtain⟨_,its,r,o,h1,h2,n,h3⟩:=(show qB P w H h a (.tup (ks.map kV)) from ok a _ e)
 exact⟨o,its.toArray,n,h1,h2,h3,by simpa using YC r⟩
theorem YH {kvs:List (List qQ×V)} (ok:Q1 P w H h) (e:Rd H a (.dT kvs)):kvs.length<=sizeLine/\(a==sysModules)=false/\
   ∃xs,KT H kvs xs/\h.DictOfH (tupleKind (jh P w)) a xs:=by
 obtain⟨z,y,xs,r,o,es,ep,h1,h2,h3,h4,h5⟩:=(show qB P w H h a (.dT kvs) from wy ok e)
 refine⟨z,y,xs,r,o,es,ep,h1,h2,h3,h4,λx hx=>?_,h5⟩
 have all:∀{l:List (List qQ×V)} {m:List (List qQ×Addr×Value)},KT H l m->∀x∈m,(tupleKind (jh P w)).is h x.1 x.2.1:=by
   intro l m q
   induction q with
   | nil=>intro x hx;exact nomatch hx
   | @cons p q ps qs hq t ih=>
     intro x hx
     rcases List.mem_cons.mp hx with e | hx
     . subst e
       exact zF ok (by rw[<-hq.1];exact hq.2.1)
     . exact ih x hx
 exact all r x hx
theorem Gg {kvs:List (List qQ×V)} (ok:Q1 P w H h) (e:H a=some (.dT kvs)):kvs.length<=sizeLine/\(a==sysModules)=false/\
   ∃xs,KT H kvs xs/\h.DictOfH (tupleKind (jh P w)) a xs:=YH ok (.inl e)
end
def Qj (H:Hp) (a:Addr) (y:V) (r:Option V):Prop:=
 (∃kvs k,Rd H a (.dK kvs)/\y=kV k/\r=js kvs k)\/∃kvs k b,Rd H a (.dT kvs)/\y=.ref b/\H b=some (.tup (k.map kV))/\r=js kvs k
def JD (H:Hp) (a:Addr) (y v:V) (H':Hp):Prop:=
 (∃kvs k,H a=some (.dK kvs)/\y=kV k/\kvs.length < sizeLine/\H'=upd H a (.dK (jD kvs k v)))\/
 ∃kvs k b,H a=some (.dT kvs)/\y=.ref b/\H b=some (.tup (k.map kV))/\kvs.length < sizeLine/\H'=upd H a (.dT (jD kvs k v))
theorem Qj.k {H:Hp} {a:Addr} {kvs:List (qQ×V)} {k:qQ} (e:H a=some (.dK kvs)):Qj H a (kV k) (js kvs k):=.inl ⟨kvs,k,.inl e,rfl,rfl⟩
theorem JD.k {H:Hp} {a:Addr} {kvs:List (qQ×V)} {k:qQ} {v:V} (e:H a=some (.dK kvs)) (hl:kvs.length < sizeLine):JD H a (kV k) v (upd H a (.dK (jD kvs k v))):=.inl ⟨kvs,k,e,rfl,hl,rfl⟩
theorem JD.t {H:Hp} {a b:Addr} {kvs:List (List qQ×V)} {k:List qQ} {v:V} (e:H a=some (.dT kvs)) (eb:H b=some (.tup (k.map kV))) (hl:kvs.length < sizeLine):
   JD H a (.ref b) v (upd H a (.dT (jD kvs k v))):=.inr ⟨kvs,k,b,e,rfl,eb,hl,rfl⟩
section
variable {X:Cx} {pins:List (Addr×Obj)} {σ:St} {H:Hp} {s:Shared} {a:Addr} {y v:V} {u r:Value} {o:Option V} {A:Around} {E:Value->Shared->Prop}
theorem qr.big (I:qr X pins σ H s):sysModules < s.heap.objs.size:=by
 have h:mainGlobals < s.heap.objs.size:=(I.mod.glob.keeps I.bk).lt
 exact Nat.lt_trans (by decide) h
theorem UZ {Q:Value->Shared->Prop} (hu:A.units+1 < cLine) (I:qr X pins σ H s) (g:Qj H a y (some v)) (ry:qJ y u) (h:∀w' s',qr X pins σ H s'->qJ v w'->Q w' s'):
   wpAny (model X.prog X.w) A (getItem (.ref a) u) Q E s:=by
 rcases g with ⟨kvs,k,e,ey,l⟩ | ⟨kvs,k,b,e,ey,eb,l⟩
 . subst ey
   obtain⟨z,hd,vs,rel,dd⟩:=YI I.hok e
   obtain⟨w',hw,rw'⟩:=Q6.some_of (v:=v) (o:=valueAt vs k) (by rw[l];exact rel.val k)
   exact wpAny_getItem_of (zG ry) dd.mapOf hw (h w' _ (I.tok _) rw')
 . subst ey
   cases (show u=Value.ref b from ry)
   obtain⟨z,hd,xs,rel,dd⟩:=YH I.hok e
   obtain⟨w',hw,rw'⟩:=Q6.some_of (v:=v) (o:=(atKey xs k).map (·.2)) (by rw[l];exact rel.val k)
   obtain⟨p,hp,hp2⟩:=Option.map_eq_some_iff.mp hw
   refine wpAny_getItem_heap (tupleKind_room_in1 hu) (zF I.hok eb) dd hp ?_
   rw[hp2]
   exact h w' _ (I.tok _) rw'
theorem RT {Q:Value->Shared->Prop} (hu:A.units+1 < cLine) (I:qr X pins σ H s) (g:Qj H a y o) (ry:qJ y u) (h:∀s',qr X pins σ H s'->Q (.bool o.isSome) s'):
   wpAny (model X.prog X.w) A (compareOp .In u (.ref a)) Q E s:=by
 rcases g with ⟨kvs,k,e,ey,l⟩ | ⟨kvs,k,b,e,ey,eb,l⟩
 . subst ey
   obtain⟨z,hd,vs,rel,dd⟩:=YI I.hok e
   refine wpAny_in_of (zG ry) hd dd.mapOf ?_
   rw[<-(rel.val k).isSome_eq,<-l]
   exact h _ (I.tok _)
 . subst ey
   cases (show u=Value.ref b from ry)
   obtain⟨z,hd,xs,rel,dd⟩:=YH I.hok e
   refine wpAny_in_heap (tupleKind_room_in1 hu) (zF I.hok eb) hd dd ?_
   have q:=(rel.val k).isSome_eq
   rw[Option.isSome_map]at q
   rw[<-q,<-l]
   exact h _ (I.tok _)
theorem xU {Q:Value->Shared->Prop} (hu:A.units+1 < cLine) (I:qr X pins σ H s) (g:Qj H a y o) (ry:qJ y u) (h:∀s',qr X pins σ H s'->Q (.bool (!o.isSome)) s'):
   wpAny (model X.prog X.w) A (compareOp .NotIn u (.ref a)) Q E s:=by
 rcases g with ⟨kvs,k,e,ey,l⟩ | ⟨kvs,k,b,e,ey,eb,l⟩
 . subst ey
   obtain⟨z,hd,vs,rel,dd⟩:=YI I.hok e
   refine wpAny_notIn_of (zG ry) hd dd.mapOf ?_
   rw[<-(rel.val k).isSome_eq,<-l]
   exact h _ (I.tok _)
 . subst ey
   cases (show u=Value.ref b from ry)
   obtain⟨z,hd,xs,rel,dd⟩:=YH I.hok e
   refine wpAny_notIn_heap (tupleKind_room_in1 hu) (zF I.hok eb) hd dd ?_
   have q:=(rel.val k).isSome_eq
   rw[Option.isSome_map]at q
   rw[<-q,<-l]
   exact h _ (I.tok _)
theorem Z8 {h':Heap} {t':Nat} {ob:HO} (I:qr X pins σ H s) (mu:u8 (H a)) (hs:Heap.SameBut a s.heap h') (he:∃q,h'.get? a=some q) (new:qB X.prog X.w (upd H a ob) h' a ob):
   qr X pins σ (upd H a ob) {s with heap:=h',toks:=t'}:=
 I.write (x:=a) (e:=a) mu (.inl rfl) (λb q hb z=>(hs.2 b hb).trans z) he new
theorem Xn {P:Program} {w:World} {H':Hp} {h':Heap} {kvs:List (qQ×V)} {vs:List (qQ×Value)} (z:kvs.length<=sizeLine) (hd:(a==sysModules)=false) (rel:KV kvs vs) (dd:h'.DictOf (jh P w) a vs):
   qB P w H' h' a (.dK kvs):=⟨z,hd,vs,rel,dd⟩
theorem UY {H':Hp} {Q:Unit->Shared->Prop} (hu:A.units+1 < cLine) (I:qr X pins σ H s) (g:JD H a y v H') (ry:qJ y u) (rv:qJ v r) (h:∀s',qr X pins σ H' s'->Q () s'):
   wpAny (model X.prog X.w) A (setItem (.ref a) u r) Q E s:=by
 rcases g with ⟨kvs,k,e,ey,l,eH⟩ | ⟨kvs,k,b,e,ey,eb,l,eH⟩
 . subst ey eH
   obtain⟨z,hd,vs,rel,dd⟩:=VY I.hok e
   have hz:vs.length<=sizeLine:=by rw[<-rel.length];exact z
   have hl:(jD kvs k v).length<=sizeLine:=by have:=Jf kvs k v;omega
   refine wpAny_setItem_pairs (hsz:=hz) (zG ry) dd λh' dd' hs=>h _ ?_
   have he:∃q,h'.get? a=some q:=let ⟨q,_,_,hq,_⟩:=dd';⟨q,hq⟩
   exact Z8 I (by rw[e];exact True.intro) hs he (Xn hl hd (rel.put k rv) dd')
 . subst ey eH
   cases (show u=Value.ref b from ry)
   obtain⟨z,hd,xs,rel,dd⟩:=Gg I.hok e
   have hz:xs.length<=sizeLine:=by rw[<-Paired.length rel];exact z
   have hl:(jD kvs k v).length<=sizeLine:=by have:=Jf kvs k v;omega
   refine wpAny_setItem_heap (hsz:=hz) (tupleKind_room_in1 hu) (zF I.hok eb) dd λh' dd' hs=>h _ ?_
   obtain⟨q,es,ep,hq,h2,h3,h4,_,h5⟩:=dd'
   refine Z8 I (by rw[e];exact True.intro) hs ⟨q,hq⟩ ⟨hl,hd,_,(rel.put k eb rv).keeps λc ys ec=>?_,q,es,ep,hq,h2,h3,h4,h5⟩
   rw[qg (KO ec e (λz=>nomatch z))]
   exact ec
end
section
variable {X:Cx} {pins:List (Addr×Obj)} {σ:St} {H:Hp} {s:Shared} {a:Addr} {kvs:List (qQ×V)} {k:qQ} {u:Value} {A:Around} {E:Value->Shared->Prop}
end
def Gs (i:Expr):Prop:=∀ov iv,subscripted i false ov iv=operate [ov,iv] (getItem ov iv)
theorem yL {prog:Program} {w:World} {A:Around} {E:Value->Shared->Prop} {s:Shared} {env:Env} {value slice:Expr} {pos:Pos} {T id:String} {Q:Value->Shared->Prop}
   (hl:typeLookup (.type T) "__getitem__"=pure (some (.builtin id))) (hs:Gs slice)
   (h:wpAny (model prog w) A (eval value env) (λo s₁=>wpAny (model prog w) A (eval slice env) (λi s₂=>s₂.TypeIs o T/\wpAny (model prog w) A (getItem o i) Q E s₂) E s₁) E s):
   wpAny (model prog w) A (eval (.Subscript value slice pos) env) Q E s:=by
 refine Subscript_ (wpAny_mono h (λo s₁ h₁=>wpAny_mono h₁ (λi s₂ h₂=>?_) λ_ _ x=>x) λ_ _ x=>x)
 obtain⟨hT,h₂⟩:=h₂
 unfold subscriptTail
 refine wpAny_bind ?_
 rw[getitemInPython_of_ne hT.not_modules]
 refine wpAny_bind (wpAny_specialOf hT hl ?_)
 have fin:wpAny (model prog w) A (subscripted slice false o i) (λr s₃=>wpAny (model prog w) A (letTemporaryGo value o r >>= λ_=>pure r) Q E s₃) E s₂:=by
   rw[hs o i]
   exact wpAny_operating (wpAny_mono h₂ (λr s₃ h₃=>wpAny_bind (wpAny_letTemporaryGo (wpAny_pure h₃))) λ_ _ x=>x)
 first
   | exact wpAny_pure (wpAny_bind fin)
   | exact wpAny_bind (wpAny_pure (wpAny_bind fin))
   | exact wpAny_bind fin
theorem Wd {X:Cx} {pins:List (Addr×Obj)} {σ:St} {H:Hp} {s:Shared} {a:Addr} {y:V} {o:Option V} (I:qr X pins σ H s) (g:Qj H a y o):s.TypeIs (.ref a) "dict":=by
 rcases g with ⟨kvs,k,e,_,_⟩ | ⟨kvs,k,b,e,_,_,_⟩
 . obtain⟨_,_,vs,_,dd⟩:=YI I.hok e
   exact dd.typeIs
 . obtain⟨_,_,xs,_,dd⟩:=YH I.hok e
   exact dd.typeIs
def Ko (td ty:TE):TE:=λσ H Q=>td σ H λx H1=>ty σ H1 λy H2=>∃a v,x=.ref a/\Qj H2 a y (some v)/\Q v H2
def Ra (ty td:TE):TE:=λσ H Q=>ty σ H λy H1=>td σ H1 λx H2=>∃a o,x=.ref a/\Qj H2 a y o/\Q (.bl o.isSome) H2
def yI (ty td:TE):TE:=λσ H Q=>ty σ H λy H1=>td σ H1 λx H2=>∃a o,x=.ref a/\Qj H2 a y o/\Q (.bl (!o.isSome)) H2
def wx (td ty tv:TE):TS:=λD σ H=>tv σ H λv H1=>td σ H1 λx H2=>ty σ H2 λy H3=>∃a H4,x=.ref a/\JD H3 a y v H4/\D.nx σ H4
section
variable {X:Cx} {o i e value:Expr} {pos pos' tpos:Pos} {td ty tv:TE}
theorem jm (hu:X.A.units+1 < cLine) (ho:JE X o td) (hi:JE X i ty) (hs:Gs i):JE X (.Subscript o i pos) (Ko td ty):=.of (by
 have ho:=ho.to
 have hi:=hi.to
 intro pins s σ H Q I h
 refine yL PySem.F.slot_dict_getitem.lookup hs (je (ho pins s σ H _ I h) λu s1 ⟨x,H1,I1,rx,q1⟩=>je (hi pins s1 σ H1 _ I1 q1) λiv s2 ⟨y,H2,I2,ry,a,v,ex,g,q2⟩=>?_)
 subst ex
 obtain rfl:u=Value.ref a:=rx
 exact⟨Wd I2 g,UZ hu I2 g ry λw' s3 I3 rw'=>⟨v,H2,I3,rw',q2⟩⟩)
theorem kO (hu:X.A.units+1 < cLine) (hi:JE X i ty) (ho:JE X o td):JC X .In i o (Ra ty td):=.of (by
 have hi:=hi.to
 have ho:=ho.to
 intro pins s σ H Q I h
 refine je (hi pins s σ H _ I h) λiv s1 ⟨y,H1,I1,ry,q1⟩=>je (ho pins s1 σ H1 _ I1 q1) λu s2 ⟨x,H2,I2,rx,a,ov,ex,g,q2⟩=>?_
 subst ex
 obtain rfl:u=Value.ref a:=rx
 exact RT hu I2 g ry λs3 I3=>⟨.bl ov.isSome,H2,I3,rfl,q2⟩)
theorem UL (hu:X.A.units+1 < cLine) (hi:JE X i ty) (ho:JE X o td):JC X .NotIn i o (yI ty td):=.of (by
 have hi:=hi.to
 have ho:=ho.to
 intro pins s σ H Q I h
 refine je (hi pins s σ H _ I h) λiv s1 ⟨y,H1,I1,ry,q1⟩=>je (ho pins s1 σ H1 _ I1 q1) λu s2 ⟨x,H2,I2,rx,a,ov,ex,g,q2⟩=>?_
 subst ex
 obtain rfl:u=Value.ref a:=rx
 exact xU hu I2 g ry λs3 I3=>⟨.bl (!ov.isSome),H2,I3,rfl,q2⟩)
theorem j5 (hu:X.A.units+1 < cLine) (ho:JE X o td) (hi:JE X i ty) (hv:JE X value tv) (hs:swapsWith value (some (.Subscript o i pos')) pos.line X.env=pure false):JS X (.Assign [.Subscript o i pos'] value pos) (wx td ty tv):=.of (by
 have ho:=ho.to
 have hi:=hi.to
 have hv:=hv.to
 intro pins s σ H D I h
 refine wpAny_Assign_Subscript (je (hv pins s σ H _ I h) λr s1 ⟨v,H1,I1,rv,q1⟩=>je (ho pins s1 σ H1 _ I1 q1) λu s2 ⟨x,H2,I2,rx,q2⟩=>je (hi pins s2 σ H2 _ I2 q2) λiv s3 ⟨y,H3,I3,ry,a,H4,ex,g,q3⟩=>?_) hs
 subst ex
 obtain rfl:u=Value.ref a:=rx
 exact UY hu I3 g ry rv λs4 I4=>⟨σ,H4,I4,q3⟩)
end
theorem Wc {P:Program} {w:World} {H:Hp} (h:Heap) (hb:sysModules < h.objs.size):qB P w H (h.push {cls:=.type "dict",data:=.dict #[]}) h.objs.size (.dK []):=
 ⟨Nat.zero_le _,beq_eq_false_iff_ne.mpr (Ne.symm (Nat.ne_of_lt hb)),[],.nil,Heap.DictOf.new h⟩
theorem yb {P:Program} {w:World} {H:Hp} (h:Heap) (hb:sysModules < h.objs.size):qB P w H (h.push {cls:=.type "dict",data:=.dict #[]}) h.objs.size (.dT []):=
 ⟨Nat.zero_le _,beq_eq_false_iff_ne.mpr (Ne.symm (Nat.ne_of_lt hb)),[],.nil,_,#[],0,Heap.get?_push_size _ rfl,⟨rfl,rfl,rfl⟩,rfl,rfl,List.nodup_nil⟩
def vj:TE:=λ_ H Q=>∀p,H p=none->Q (.ref p) (upd H p (.dK []))
def vi:TE:=λ_ H Q=>∀p,H p=none->Q (.ref p) (upd H p (.dT []))
section
variable {X:Cx} {pos:Pos}
theorem vS:PE X (.Dict [] [] pos) vj:=λpins s σ H Q I h=>
 wpAny_Dict_empty ⟨.ref s.heap.objs.size,_,I.laid (a:=s.heap.objs.size) (o:=.dK []) (t':=s.toks) (λ_ _ q=>Heap.get?_push_of_some _ q) (Nat.le_refl _) (Wc s.heap I.big),rfl,h _ (I.hok.fresh (Nat.le_refl _))⟩
theorem zM:JE X (.Dict [] [] pos) vj:=.of (vS)
theorem vR:PE X (.Dict [] [] pos) vi:=λpins s σ H Q I h=>
 wpAny_Dict_empty ⟨.ref s.heap.objs.size,_,I.laid (a:=s.heap.objs.size) (o:=.dT []) (t':=s.toks) (λ_ _ q=>Heap.get?_push_of_some _ q) (Nat.le_refl _) (yb s.heap I.big),rfl,h _ (I.hok.fresh (Nat.le_refl _))⟩
theorem kM:JE X (.Dict [] [] pos) vi:=.of (vR)
end
def Ww:List (TE×TE)->St->Hp->(List (V×V)->Hp->Prop)->Prop
 | [],_,H,Q=>Q [] H
 | (tk,tv)::r,σ,H,Q=>tk σ H λx H1=>tv σ H1 λy H2=>Ww r σ H2 λps H3=>Q ((x,y)::ps) H3
abbrev VV:List (V×V)->List (Value×Value)->Prop:=Paired λp q=>qJ p.1 q.1/\qJ p.2 q.2
def Gr (X:Cx) (pos:Pos) (keys:List (Option Expr)) (values:List Expr) (trs:List (TE×TE)):Prop:=
 ∀(pins:List (Addr×Obj)) (s:Shared) (σ:St) (H:Hp) (Q:List (V×V)->Hp->Prop),qr X pins σ H s->Ww trs σ H Q->
   wpAny (model X.prog X.w) X.A (evalPairs (pairTrees keys values X.env pos)) (λvs s'=>∃ps H',qr X pins σ H' s'/\VV ps vs/\Q ps H') X.xe s
@[irreducible] def yx (X:Cx) (pos:Pos) (keys:List (Option Expr)) (values:List Expr) (trs:List (TE×TE)):Prop:=Gr X pos keys values trs
theorem yx.of {X:Cx} {pos:Pos} {keys:List (Option Expr)} {values:List Expr} {trs:List (TE×TE)} (h:Gr X pos keys values trs):yx X pos keys values trs:=by unfold yx;exact h
theorem yx.to {X:Cx} {pos:Pos} {keys:List (Option Expr)} {values:List Expr} {trs:List (TE×TE)} (h:yx X pos keys values trs):Gr X pos keys values trs:=by unfold yx at h;exact h
theorem Xf {X:Cx} {pos:Pos}:yx X pos [] [] []:=.of (by
 exact λpins s σ H Q I h=>pairTrees_nil_walk ⟨[],H,I,.nil,h⟩)
theorem vO {X:Cx} {pos:Pos} {k v:Expr} {ks:List (Option Expr)} {vs:List Expr} {tk tv:TE} {trs:List (TE×TE)} (hk:PE X k tk) (hv:PE X v tv) (hr:Gr X pos ks vs trs):
   Gr X pos (some k::ks) (v::vs) ((tk,tv)::trs):=λpins s σ H Q I h=>
 pairTrees_cons_walk (je (hk pins s σ H _ I h) λu s1 ⟨x,H1,I1,rx,q1⟩=>je (hv pins s1 σ H1 _ I1 q1) λw2 s2 ⟨y,H2,I2,ry,q2⟩=>
   je (hr pins s2 σ H2 _ I2 q2) λws s3 ⟨ps,H3,I3,rel,q3⟩=>⟨(x,y)::ps,H3,I3,.cons ⟨rx,ry⟩ rel,q3⟩)
theorem Qe {X:Cx} {pos:Pos} {k v:Expr} {ks:List (Option Expr)} {vs:List Expr} {tk tv:TE} {trs:List (TE×TE)} (hk:JE X k tk) (hv:JE X v tv) (hr:yx X pos ks vs trs):yx X pos (some k::ks) (v::vs) ((tk,tv)::trs):=.of (vO hk.to hv.to hr.to)
def jw (kvs more:List (qQ×V)):List (qQ×V):=more.foldl (λacc kv=>jD acc kv.1 kv.2) kvs
theorem KV.merge:∀{more:List (qQ×V)} {rs:List (qQ×Value)} {kvs:List (qQ×V)} {vs:List (qQ×Value)},KV more rs->KV kvs vs->KV (jw kvs more) (merged vs rs):=by
 intro more rs kvs vs r
 unfold KV at r
 induction r generalizing kvs vs with
 | nil=>intro q;exact q
 | @cons p q ps qs h t ih=>
   intro r0
   have e:KV (jD kvs p.1 p.2) (stored vs q.1 q.2):=by
     have:=r0.put p.1 h.2
     rw[<-h.1];exact this
   exact ih e
theorem Qb:∀(more kvs:List (qQ×V)),(jw kvs more).length<=kvs.length+more.length
 | [],kvs=>by show kvs.length<=kvs.length+0;omega
 | p::r,kvs=>by
   have h1:=Qb r (jD kvs p.1 p.2)
   have h2:=Jf kvs p.1 p.2
   show (jw (jD kvs p.1 p.2) r).length<=_
   rw[List.length_cons];omega
theorem zU {P:Program} {w:World}:∀{kvs:List (qQ×V)} {ws:List (Value×Value)},VV (kvs.map λkv=>(kV kv.1,kv.2)) ws->∃rs,Carries (jh P w) ws rs/\KV kvs rs
 | [],_,r=>by rw[List.map_nil]at r;cases r;exact⟨[],True.intro,.nil⟩
 | p::kvs,_,r=>by
   rw[List.map_cons]at r
   cases r with
   | @cons a b as bs h t=>
     obtain⟨rs,c,q⟩:=zU (P:=P) (w:=w) t
     obtain⟨b1,b2⟩:=b
     exact⟨(p.1,b2)::rs,⟨zG h.1,rfl,c⟩,.cons ⟨rfl,h.2⟩ q⟩
def Km (trs:List (TE×TE)):TE:=λσ H Q=>∀p,H p=none->Ww trs σ (upd H p (.dK [])) λps H2=>H2 p=some (.dK [])/\∃kvs:List (qQ×V),ps=kvs.map (λkv=>(kV kv.1,kv.2))/\kvs.length<=15/\Q (.ref p) (upd H2 p (.dK (jw [] kvs)))
theorem Xk {X:Cx} {pos:Pos} {keys:List (Option Expr)} {values:List Expr} {trs:List (TE×TE)} (h:yx X pos keys values trs) (hall:keys.all (·.isSome)=true) (hl:keys.length=values.length) (h0:keys≠[]) (h15:keys.length<=15):JE X (.Dict keys values pos) (Km trs):=.of (by
 have h:=h.to
 intro pins s σ H Q I q
 have hn:=I.hok.fresh (Nat.le_refl s.heap.objs.size)
 have I1:=I.laid (a:=s.heap.objs.size) (o:=.dK []) (h':=s.heap.push {cls:=.type "dict",data:=.dict #[]}) (t':=s.toks) (λ_ _ q=>Heap.get?_push_of_some _ q) (Nat.le_refl _) (Wc s.heap I.big)
 refine wpAny_Dict_walk (knd:=jh X.prog X.w) hall hl h0 h15 (je (h pins _ σ _ _ I1 (q _ hn)) λws s2 ⟨ps,H2,I2,rel,e,kvs,ep,lk,q2⟩=>?_)
 subst ep
 obtain⟨rs,c,rk⟩:=zU (P:=X.prog) (w:=X.w) rel
 obtain⟨z,hd,vs0,r0,dd⟩:=VY I2.hok e
 cases r0
 refine⟨rs,c,dd,λh' dd' hs=>⟨.ref s.heap.objs.size,_,?_,rfl,q2⟩⟩
 have hz:(jw [] kvs).length<=sizeLine:=by
   have h1:=Qb kvs []
   rw[List.length_nil]at h1
   rw[sizeLine_eq];omega
 have he:∃q,h'.get? s.heap.objs.size=some q:=let ⟨q,_,_,hq,_⟩:=dd';⟨q,hq⟩
 exact Z8 I2 (by rw[e];exact True.intro) hs he (Xn hz hd (rk.merge .nil) dd'))
structure M1 (X:Cx) (o:Expr) (m:Str) (apos:Pos) (e:Expr) (cpos:Pos):Prop where
 base:attributeBase o m X.env (eval o X.env)=eval o X.env
 few:((backTo cpos (starEach [e] X.env)).all (λx=> !x.1)&&(backToKw cpos (keywordEach [] X.env)).all (λx=>x.1.isSome)
   &&decide (([e]:List Expr).length+([]:List Keyword).length+(if ([]:List Keyword).isEmpty then 0 else 1) < 30))=true
 line:(apos.endLine==cpos.line)=true
 trees:backTo cpos (starEach [e] X.env)=[(false,eval e X.env)]
structure M2 (X:Cx) (o:Expr) (m:Str) (apos:Pos) (e f:Expr) (cpos:Pos):Prop where
 base:attributeBase o m X.env (eval o X.env)=eval o X.env
 few:((backTo cpos (starEach [e,f] X.env)).all (λx=> !x.1)&&(backToKw cpos (keywordEach [] X.env)).all (λx=>x.1.isSome)
   &&decide (([e,f]:List Expr).length+([]:List Keyword).length+(if ([]:List Keyword).isEmpty then 0 else 1) < 30))=true
 line:(apos.endLine==cpos.line)=true
 trees:backTo cpos (starEach [e,f] X.env)=[(false,eval e X.env),(false,eval f X.env)]
def IsD (H:Hp) (a:Addr):Prop:=(∃kvs,Rd H a (.dK kvs))\/∃kvs,Rd H a (.dT kvs)
theorem uH {X:Cx} {pins:List (Addr×Obj)} {σ:St} {H:Hp} {s:Shared} {a:Addr} (I:qr X pins σ H s) (d:IsD H a):
   s.TypeIs (.ref a) "dict"/\(∀b,Value.ref a=.ref b->∃ob,s.heap.get? b=some ob/\ob.dict=none)/\(a==sysModules)=false:=by
 rcases d with ⟨kvs,e⟩ | ⟨kvs,e⟩
 . obtain⟨_,hd,vs,_,dd⟩:=YI I.hok e
   refine⟨dd.typeIs,λb q=>?_,hd⟩
   cases q
   obtain⟨ob,_,_,h1,h2,_⟩:=dd
   exact⟨ob,h1,h2.2.1⟩
 . obtain⟨_,hd,xs,_,dd⟩:=YH I.hok e
   refine⟨dd.typeIs,λb q=>?_,hd⟩
   cases q
   obtain⟨ob,_,_,h1,h2,_⟩:=dd
   exact⟨ob,h1,h2.2.1⟩
section
variable {X:Cx} {pins:List (Addr×Obj)} {σ:St} {H:Hp} {s:Shared} {a:Addr} {y d:V} {u r:Value} {o:Option V} {A:Around} {E:Value->Shared->Prop}
end
section
variable {X:Cx} {o e f:Expr} {apos cpos:Pos} {td ty tx:TE}
end
section
variable {X:Cx} {pins:List (Addr×Obj)} {σ:St} {H:Hp} {s:Shared} {a:Addr} {kvs:List (qQ×V)} {A:Around} {E:Value->Shared->Prop}
end
section
variable {X:Cx} {pins:List (Addr×Obj)} {σ:St} {H:Hp} {s:Shared} {a:Addr} {y:V} {u:Value} {A:Around} {E:Value->Shared->Prop}
end
end L2
namespace Att
open PySem PySem.W PySem.Calls PyProof.Rows
theorem ZU {P:Params} {h:Heap}:∀(ns:List Int) (vs:List Value),WellAll P h vs (ns.map WData.int)->IntsAre vs ns:=by
 intro ns
 induction ns with
 | nil=>
   intro vs w
   rw[List.map_nil]at w
   cases w
   exact .nil
 | cons n ns ih=>
   intro vs w
   rw[List.map_cons]at w
   cases w with
   | cons a b=>
     cases a
     exact .cons _ _ (ih _ b)
theorem Ui {l:OpenLaw} {n:Nat} (hn:l.most=some n) {P:Params} {h:Heap} {args:List WData} {vals:List Value}
   (hpre:l.row.toRowW.claim.pre args=true) (hwl:WellAll P h vals args):
   ∃a vs ns,vals=[Value.ref a]/\args=[WData.list (ns.map WData.int)]/\h.get? a=some {cls:=.type "list",data:=.seq vs.toArray}/\IntsAre vs ns/\ns.length<=n:=by
 have hsh:WShape.hasAll [] args [.list .int]=true:=(pre_splitW hpre).1
 have hc:l.pre.holds [] {args:=args}=true:=(pre_splitW hpre).2
 obtain⟨d,r,rfl,h1,h2⟩:=hasAllW_cons hsh
 obtain rfl:=hasAllW_nil h2
 obtain⟨xs,rfl,h3⟩:=hasW_list h1
 obtain⟨ns,rfl⟩:=items_int h3
 have hlen:ns.length<=n:=by
   unfold OpenLaw.pre at hc
   have h4:(WTm.not (.lt (.lit (.int (n:Int))) (.len (.arg 0)))).holds [] {args:=[.list (ns.map .int)]}=true:=by
     have h4:=(holds_andW hc).1
     rw[hn]at h4
     exact h4
   have h5:=condW_of h4 (w_not (w_lt w_lit (w_len_list (w_arg rfl))))
   rw[List.length_map]at h5
   refine Nat.le_of_not_lt λq=>?_
   have q':(n:Int) < ((ns.length:Nat):Int):=by omega
   first
     | (rw[decide_eq_true q']at h5;exact absurd h5 (by decide))
     | (simp at h5;omega)
 cases hwl with
 | cons w1 w2=>
   cases w2
   cases w1 with
   | list ho hall=>exact⟨_,_,ns,rfl,rfl,ho,ZU ns _ hall,hlen⟩
theorem Us (l:OpenLaw) (args:List WData):l.row.toRowW.claim.post args (.bool true) args=true:=
 postW_of (r:=l.row.toRowW) (X:=(true==true))
   (show WShape.has [] (.bool true) .bool=true by first | rfl | decide | simp [WShape.has,WShape.arms,WShape.armsAll])
   (show (WTm.eq .res (.lit (.bool true))).value [] {args:=args,res:=some (.bool true),after:=args}=some (.bool (true==true)) from w_eq_bool (w_res rfl) w_lit) rfl
theorem attach_call {l:OpenLaw} {n:Nat} {q:Program} {loose:List Str} {XP:(Str->Option Value)->Heap->Prop} {YP:World->Heap->Prop} {d:DefRec}
   (hn:l.most=some n) (hdf:d.params.defaults=[])
   (call:∀(w:World) (s₀ s₁:Shared) (mg mb:Str->Option Value) (fa:Addr) (o:Obj) (pm cd doc:Value) (a:Addr) (vs:List Value) (ns:List Int),
     Ground q loose [] XP w s₀ mg mb s₁.heap->YP w s₁.heap->
     s₁.heap.get? fa=some o->o.data=.func (docDef d.name d.params d.body d.scope pm cd doc)->s₁.heap.CodeRec cd d.name->mg d.name=some (.ref fa)->
     s₁.heap.get? a=some {cls:=.type "list",data:=.seq vs.toArray}->IntsAre vs ns->ns.length<=n->s₁.gens=#[]->
     codeAny (model l.prog w) callerA (.call (.ref fa) ⟨[.ref a],[]⟩) (λr s'=>r=.ok (.ret (.bool true))/\OldK s₁.heap s'.heap/\s'.os=s₁.os/\AllBare s'.gens) s₁):
   WalkO q loose XP YP l.row.toRowW d [] (λf vs=>PySem.call f vs):=by
 intro w s₀ s₁ mg mb G Y fa o pm cd doc dV kV ho hd hcd hD hmg hg args vals as hpre hlay hrd hwl hlo
 obtain rfl:dV=.none:=Dflts.none hD hdf
 obtain rfl:kV=.none:=Dflts.noKw hD
 obtain⟨a,vs,ns,rfl,rfl,hobj,hints,hlen⟩:=Ui hn hpre hwl
 refine enter_call (codeAny_mono (call w s₀ s₁ mg mb fa o pm cd doc a vs ns G Y ho (fd_plain hd) hcd hmg hobj hints hlen hg) λr s' hq=>?_)
 obtain⟨rfl,h2,h3,h4⟩:=hq
 exact⟨.inl ⟨.bool true,.bool true,[],rfl,λ_=>rfl,.bool true,Us l _,λ_=>⟨List.Pairwise.nil,λ_ hm=>(nomatch hm)⟩⟩,h2,h3,h4⟩
section
variable {prog:Program} {w:World} {A:Around} {E:Value->Shared->Prop} {s:Shared} {K:Frag}
end
end Att
namespace L2
open PySem PySem.Spec PyProof.Rows
theorem Yj:∀{vs:List Value} {ns:List Int},IntsAre vs ns->qC (ns.map V.int) vs
 | _,_,.nil=>.nil
 | _,_,.cons n t h=>.cons ⟨t,rfl⟩ (Yj h)
def RY (H:Hp):Prop:=∀b,H b=none\/∃o xs,H b=some (.frz o (.lst xs))
end L2
namespace L2
open PySem PySem.Spec PyProof.Rows
end L2
namespace L2
open PySem PySem.Spec PyProof.Rows
def Z5 (s:Stmt) (j:Nat):Stmt:=match s with
 | .ClassDef _ _ _ body _ _ _ _ _ _ _=>body.getD j (.Pass ⟨0,0,0,0⟩)
 | _=>.Pass ⟨0,0,0,0⟩
def jA (s:Stmt):Arguments:=match s with
 | .FunctionDef _ a _ _ _ _ _ _ _ _=>a
 | _=>{posonlyargs:=[],args:=[],vararg:=none,kwonlyargs:=[],kw_defaults:=[],kwarg:=none,defaults:=[]}
def ja (s:Stmt):List Stmt:=match s with
 | .FunctionDef _ _ b _ _ _ _ _ _ _=>b
 | _=>[]
def qi (s:Stmt):Scope:=match s with
 | .FunctionDef _ _ _ _ _ _ sc _ _ _=>sc
 | _=>{kind:=.function,names:=[],isGenerator:=false,isCoroutine:=false}
abbrev q5:ZI:=λ_ _ _ _ _ _=>False
abbrev E0:XK:=λ_ _ _=>False
theorem Zg {X:Cx}:jx q5 X E0:=λ_ _ _ _ _ _ _ h=>h.elim
structure Qa (K:PySem.W.Frag) (x qual:Str) (st:Stmt) (f:Addr) (fd:FuncData):Prop where
 ex:∃(oc:Value) (od:Option Addr) (kV doc pm:Value) (an:Option Addr) (cdv ct:Value) (osl:Array (Option Value)),
   fd=PySem.W.fnOf x qual (jA st) (ja st) (qi st) .none kV doc pm an cdv ct/\K.lookup f=some ⟨oc,od,.func fd,osl⟩/\PySem.W.codeIn K cdv qual=true
 kp:PySem.W.keepIn K (.ref f)=true
section
variable {P:Program} {w:World} {K:PySem.W.Frag} {mg:Str->Option Value} {base:Heap}
theorem Qa.ok {x qual:Str} {st:Stmt} {f:Addr} {fd:FuncData} {N ps:List Str} {k:Nat} {sp:Sp} (F:Qa K x qual st f fd) (S:qA N ps (qi st)) (len:∀vs H Q E,sp vs H Q E->vs.length=ps.length)
   (hbody:∀(cdv:Value) (A:Around) (outer:List Env) (s:Shared) (H:Hp) (vs:List V) (Q:VK) (E:XK),qY k (A.deeper (envOfC qual (qi st) s.heap.objs.size f cdv))->sp vs H Q E->
     ∃t,yu (jL q5 P w K mg base N qual (qi st) f cdv A outer s H E).nox (ja st) t/\t {nx:=λ_ H'=>Q .non H',rt:=Q} (jU N vs) H):qp P w K mg base q5 (k+1) f fd ps sp:=by
 obtain⟨oc,od,kV,doc,pm,an,cdv,ct,osl,rfl,lk,hcd⟩:=F.ex
 refine wF lk hcd S len λA outer s H vs Q E hr hsp=>?_
 obtain⟨t,h,q⟩:=hbody cdv A outer s H vs Q E hr hsp
 exact⟨t,h.nox,q⟩
theorem Qa.okJ {x qual:Str} {st:Stmt} {f:Addr} {fd:FuncData} {N ps:List Str} {k:Nat} {sp:Sp} (F:Qa K x qual st f fd) (S:qA N ps (qi st)) (len:∀vs H Q E,sp vs H Q E->vs.length=ps.length)
   (hbody:∀(cdv:Value) (A:Around) (outer:List Env) (s:Shared) (H:Hp) (vs:List V) (Q:VK) (E:XK),qY k (A.deeper (envOfC qual (qi st) s.heap.objs.size f cdv))->sp vs H Q E->
     ∃t,z0 (jL q5 P w K mg base N qual (qi st) f cdv A outer s H E).nox (ja st) t/\t {nx:=λ_ H'=>Q .non H',rt:=Q} (jU N vs) H):qp P w K mg base q5 (k+1) f fd ps sp:=
 F.ok S len λcdv A outer s H vs Q E hr h=>let ⟨t,a,b⟩:=hbody cdv A outer s H vs Q E hr h;⟨t,a.to,b⟩
theorem Qa.binds {x qual:Str} {st:Stmt} {f:Addr} {fd:FuncData} {ps:List Str} (F:Qa K x qual st f fd)
   (h:∀(kV doc pm:Value) (an:Option Addr) (cdv ct:Value) (us:List Value),us.length=ps.length->bindArgs (PySem.W.fnOf x qual (jA st) (ja st) (qi st) .none kV doc pm an cdv ct) ⟨us,[]⟩=pure (ps.zip us)):jE K fd ps []:=by
 obtain⟨oc,od,kV,doc,pm,an,cdv,ct,osl,rfl,lk,hcd⟩:=F.ex
 exact .all (h kV doc pm an cdv ct)
theorem zP {x qual:Str} {st:Stmt} {f:Addr} {oc:Value} {od an:Option Addr} {osl:Array (Option Value)} {kV doc pm cdv ct:Value} (l:K.lookup f=some ⟨oc,od,.func (PySem.W.fnOf x qual (jA st) (ja st) (qi st) .none kV doc pm an cdv ct),osl⟩)
   (c:PySem.W.codeIn K cdv qual=true) (k:PySem.W.keepIn K (.ref f)=true):Qa K x qual st f (PySem.W.fnOf x qual (jA st) (ja st) (qi st) .none kV doc pm an cdv ct):=⟨⟨oc,od,kV,doc,pm,an,cdv,ct,osl,rfl,l,c⟩,k⟩
end
theorem JN {A:Around} {k:Nat} (hr:qY k A):A.units+1 < cLine:=Nat.lt_of_le_of_lt (Nat.add_le_add_left (by decide:1<=64) _) hr.units
theorem qu {n:Nat} (h:n<=1000):n < sizeLine:=Nat.lt_of_le_of_lt h (by decide)
section
variable {X:Cx}
theorem pv (i:Nat) {x:Str} {pos:Pos} (hN:X.N[i]?=some x:=by rfl) (hv:u6 X.env.scope x:=by first | exact Or.inl rfl | exact Or.inr (Or.inl rfl) | exact Or.inr (Or.inr rfl)) (hd:(x==("__debug__":Str))=false:=by decide)
   (hcd:(x==("__classdict__":Str))=false:=by decide):PE X (.Name x pos) (jt i):=vP hN hv hd hcd
theorem jv (i:Nat) {x:Str} {pos:Pos} (hN:X.N[i]?=some x:=by rfl) (hv:u6 X.env.scope x:=by first | exact Or.inl rfl | exact Or.inr (Or.inl rfl) | exact Or.inr (Or.inr rfl)) (hd:(x==("__debug__":Str))=false:=by decide) (hcd:(x==("__classdict__":Str))=false:=by decide):JE X (.Name x pos) (jt i):=.of (pv i hN hv hd hcd)
end
theorem jP {A B:Prop} (h:B):if false=true then A else B:=by
 rw[if_neg Bool.false_ne_true]
 exact h
theorem Q3 {A B:Prop} (h:A):if true=true then A else B:=by
 rw[if_pos rfl]
 exact h
theorem WU {c A B:Prop} [Decidable c] (h1:c->A) (h2:¬c->B):if c then A else B:=by
 by_cases h:c
 . rw[if_pos h]
   exact h1 h
 . rw[if_neg h]
   exact h2 h
def Same (H H':Hp):Prop:=∀b o,H b=some o->H' b=some o
theorem Same.refl (H:Hp):Same H H:=λ_ _ h=>h
theorem Same.trans {H H1 H2:Hp} (a:Same H H1) (b:Same H1 H2):Same H H2:=λc o h=>b c o (a c o h)
section
variable {X:Cx}
end
section
variable {κ:Type} [DecidableEq κ]
theorem yB {kvs:List (κ×V)} {k:κ} {v:V} (h:js kvs k=some v):k∈kvs.map (·.1):=by
 have q:(kvs.any λkv=>decide (kv.1=k))=true:=by
   rw[QG,h]
   all_goals rfl
 obtain⟨p,hp,e⟩:=List.any_eq_true.mp q
 exact List.mem_map.mpr ⟨p,hp,of_decide_eq_true e⟩
end
end L2
set_option Elab.async false
set_option linter.all false
set_option maxRecDepth 100000
set_option maxHeartbeats 4000000
namespace L2
open PySem PySem.Spec PyProof.Rows
theorem VX:(NameKind.free==NameKind.free)=true:=rfl
def qS (env:Env):List (Str×NameKind)->List (Str×Addr)->List (Str×Addr)
 | [],cs=>cs
 | (n,k)::r,cs=>qS env r (if k==.free then (n,(env.cells.lookup n).getD 0)::cs else cs)
theorem QB {scope:Scope} {env:Env} (h:∀x∈scope.names,x.2=.free->∃c,env.cells.lookup x.1=some c):closureFor scope env=pure (qS env scope.names []):=by
 simp only[closureFor]
 have key:∀(l:List (Str×NameKind)) (cs:List (Str×Addr)),(∀x∈l,x.2=.free->∃c,env.cells.lookup x.1=some c)->
     (forIn l cs λx (r:List (Str×Addr))=>if (x.snd==NameKind.free)=true then (do let a <-cellOf env x.fst;pure (ForInStep.yield ((x.fst,a)::r)):Sem (ForInStep (List (Str×Addr)))) else pure (ForInStep.yield r))=(pure (qS env l cs):Sem (List (Str×Addr))):=by
   intro l
   induction l with
   | nil=>intro cs _;rfl
   | cons x l ih=>
     intro cs hl
     obtain⟨n,k⟩:=x
     have ihl:=λcs'=>ih cs' λy hy=>hl y (List.mem_cons_of_mem _ hy)
     rw[List.forIn_cons]
     by_cases hk:k=.free
     . subst hk
       obtain⟨c,hc⟩:=hl (n,.free) List.mem_cons_self rfl
       have e1:cellOf env n=pure c:=by
         unfold cellOf
         have hc':env.cells.lookup n=some c:=hc
         rw[hc']
       have e2:qS env ((n,NameKind.free)::l) cs=qS env l ((n,c)::cs):=by
         have hc':env.cells.lookup n=some c:=hc
         show qS env l (if (NameKind.free==NameKind.free)=true then (n,(env.cells.lookup n).getD 0)::cs else cs)=_
         rw[if_pos VX,hc']
         rfl
       rw[e2,<-ihl]
       dsimp only
       rw[if_pos VX,e1]
       rfl
     . have hb:(k==NameKind.free)=false:=by simpa using hk
       have e2:qS env ((n,k)::l) cs=qS env l cs:=by
         show qS env l (if (k==NameKind.free)=true then (n,(env.cells.lookup n).getD 0)::cs else cs)=_
         rw[if_neg (by rw[hb];decide)]
       rw[e2,<-ihl]
       dsimp only
       rw[if_neg (by rw[hb];decide)]
       rfl
 rw[key scope.names [] h]
 rfl
theorem j2 {env:Env} {x:Str} {c:Addr}:∀{l:List (Str×NameKind)} {cs:List (Str×Addr)},(qS env l cs).lookup x=some c->cs.lookup x=some c\/((x,NameKind.free)∈l/\c=(env.cells.lookup x).getD 0)
 | [],cs,h=>.inl h
 | (n,k)::r,cs,h=>by
   rcases j2 (l:=r) h with h | ⟨h1,h2⟩
   . by_cases hk:k=.free
     . subst hk
       rw[if_pos VX,List.lookup_cons]at h
       by_cases hx:x=n
       . subst hx
         simp only[beq_self_eq_true]at h
         exact .inr ⟨List.mem_cons_self,(Option.some.inj h).symm⟩
       . have hb:(x==n)=false:=beq_eq_false_iff_ne.mpr hx
         simp only[hb]at h
         exact .inl h
     . have hb:(k==NameKind.free)=false:=by simpa using hk
       rw[if_neg (by rw[hb];decide)]at h
       exact .inl h
   . exact .inr ⟨List.mem_cons_of_mem _ h1,h2⟩
theorem QV {env:Env} {x:Str}:∀{l:List (Str×NameKind)} {cs:List (Str×Addr)},((x,NameKind.free)∈l\/∃c,cs.lookup x=some c)->∃c,(qS env l cs).lookup x=some c
 | [],cs,h=>by
   rcases h with h | h
   . cases h
   . exact h
 | (n,k)::r,cs,h=>by
   show ∃c,(qS env r (if (k==NameKind.free)=true then (n,(env.cells.lookup n).getD 0)::cs else cs)).lookup x=some c
   refine QV (l:=r) ?_
   rcases h with h | ⟨c,h⟩
   . rcases List.mem_cons.mp h with h | h
     . cases h
       refine .inr ⟨(env.cells.lookup x).getD 0,?_⟩
       rw[if_pos VX,List.lookup_cons]
       simp only[beq_self_eq_true]
     . exact .inl h
   . refine .inr ?_
     by_cases hk:(k==NameKind.free)=true
     . rw[if_pos hk,List.lookup_cons]
       cases hx:x==n with
       | true=>exact⟨_,rfl⟩
       | false=>exact⟨c,h⟩
     . rw[if_neg hk]
       exact⟨c,h⟩
theorem Ze {scope:Scope} {env:Env} {x:Str} {k:NameKind}:∀{names:List (Str×NameKind)},names.lookup x=some k->
   ∃k',(names.map λ(n,k)=>if (k==NameKind.free&&env.scope.kind==.function&&env.kindOf n==some .cell) then (n,NameKind.cell) else (n,k)).lookup x=some k'/\(k'=k\/(k=.free/\k'=.cell))
 | [],h=>by simp at h
 | (n,j)::r,h=>by
   rw[List.map_cons]
   by_cases hx:x=n
   . subst hx
     rw[List.lookup_cons]at h
     simp only[beq_self_eq_true]at h
     cases h
     dsimp only
     by_cases hc:(k==NameKind.free&&env.scope.kind==.function&&env.kindOf x==some .cell)=true
     . rw[if_pos hc,List.lookup_cons]
       simp only[beq_self_eq_true]
       refine⟨_,rfl,.inr ⟨?_,rfl⟩⟩
       simp only[Bool.and_eq_true,beq_iff_eq]at hc
       exact hc.1.1
     . rw[if_neg hc,List.lookup_cons]
       simp only[beq_self_eq_true]
       exact⟨_,rfl,.inl rfl⟩
   . have hb:(x==n)=false:=beq_eq_false_iff_ne.mpr hx
     rw[List.lookup_cons]at h
     simp only[hb]at h
     obtain⟨k',h1,h2⟩:=Ze (env:=env) (scope:=scope) h
     refine⟨k',?_,h2⟩
     dsimp only
     by_cases hc:(j==NameKind.free&&env.scope.kind==.function&&env.kindOf n==some .cell)=true
     . rw[if_pos hc,List.lookup_cons]
       simp only[hb]
       exact h1
     . rw[if_neg hc,List.lookup_cons]
       simp only[hb]
       exact h1
theorem mem_of_lookup {x:Str} {k:NameKind}:∀{l:List (Str×NameKind)},l.lookup x=some k->(x,k)∈l
 | [],h=>by simp at h
 | (n,j)::r,h=>by
   rw[List.lookup_cons]at h
   by_cases hx:x=n
   . subst hx
     simp only[beq_self_eq_true]at h
     cases h
     exact List.mem_cons_self
   . have hb:(x==n)=false:=beq_eq_false_iff_ne.mpr hx
     simp only[hb]at h
     exact List.mem_cons_of_mem _ (mem_of_lookup h)
theorem JL {f:Str×NameKind->Str×NameKind} (hf:∀p,(f p).1=p.1) {x:Str} {k:NameKind}:∀{l:List (Str×NameKind)},(l.map f).lookup x=some k->∃j,l.lookup x=some j/\(f (x,j)).2=k
 | [],h=>by simp at h
 | (n,j)::r,h=>by
   rw[List.map_cons]at h
   have e:f (n,j)=(n,(f (n,j)).2):=by
     have:=hf (n,j)
     exact Prod.ext this rfl
   rw[e,List.lookup_cons]at h
   rw[List.lookup_cons]
   by_cases hx:x=n
   . subst hx
     simp only[beq_self_eq_true]at h ⊢
     exact⟨j,rfl,Option.some.inj h⟩
   . have hb:(x==n)=false:=beq_eq_false_iff_ne.mpr hx
     simp only[hb]at h ⊢
     exact JL hf h
def ZQ (X:Cx) (N:List Str) (scope:Scope) (C:Addr) (s₂:Shared) (H₂:Hp) (fp:List Addr) (pins:List (Addr×Obj)):Cx where
 prog:=X.prog
 w:=X.w
 K:=X.K
 mg:=X.mg
 base:=X.base
 A:=X.A
 N:=N
 s₀:=s₂
 H₀:=H₂
 env:=compEnvC scope (qS X.env scope.names []) C X.env
 outer:=X.stack
 stack:=X.stack
 ex:=fp
 fn:=λ_=>false
 calm:=X.calm
 pn:=X.pn++pins
 xe:=λ_ _=>False
def wK (ix:List (Option Nat)) (σ:St):St:=ix.map λo=>o.bind λj=>(σ[j]?).join
def xK (N' N:List Str) (sc esc:Scope) (ix:List (Option Nat)):Bool:=
 ix.length==N'.length&&(ix.zip N').all λp=>match p.1 with
   | none=>true
   | some j=>N[j]?==some p.2&&sc.names.lookup p.2==some .free&&(esc.names.lookup p.2==some .cell || esc.names.lookup p.2==some .free)
structure j1 (X:Cx) (N':List Str) (ix:List (Option Nat)) (scope:Scope):Prop where
 kind:scope.kind=.function
 nocell:(scope.names.all λx=>x.2 != .cell)=true
 locs:(scope.names.all λx=>x.2 != .local || scope.names.lookup x.1==some .local)=true
 frees:(scope.names.all λx=>x.2 != .free || (X.env.scope.names.lookup x.1==some .cell || X.env.scope.names.lookup x.1==some .free))=true
 ixs:xK N' X.N scope X.env.scope ix=true
section
variable {X:Cx} {N':List Str} {ix:List (Option Nat)} {scope:Scope} {pins:List (Addr×Obj)} {σ:St} {H:Hp} {s:Shared}
theorem j1.cellH (S:j1 X N' ix scope):∀y∈scope.names,y.2≠.cell:=λy hy e=>by
 have:=List.all_eq_true.mp S.nocell y hy
 rw[e]at this
 exact absurd this (by decide)
theorem j1.locH (S:j1 X N' ix scope):∀y∈scope.names,y.2=.local->scope.names.lookup y.1=some .local:=λy hy e=>by
 have:=List.all_eq_true.mp S.locs y hy
 simp only[e,Bool.or_eq_true,bne_self_eq_false,Bool.false_eq_true,false_or,beq_iff_eq]at this
 exact this
theorem j1.freeH (S:j1 X N' ix scope) (ok:X.Ok):∀x∈scope.names,x.2=.free->∃c,X.env.cells.lookup x.1=some c:=λx hx e=>by
 have:=List.all_eq_true.mp S.frees x hx
 simp only[e,Bool.or_eq_true,bne_self_eq_false,Bool.false_eq_true,false_or,beq_iff_eq]at this
 exact ok.has x.1 this
theorem j1.clook (S:j1 X N' ix scope) (ok:X.Ok) {x:Str} {c:Addr} (h:(qS X.env scope.names []).lookup x=some c):X.env.cells.lookup x=some c/\(x,NameKind.free)∈scope.names:=by
 rcases j2 h with h | ⟨h1,h2⟩
 . simp at h
 . obtain⟨c',hc'⟩:=S.freeH ok _ h1 rfl
   have hc2:X.env.cells.lookup x=some c':=hc'
   rw[hc2]at h2
   subst h2
   exact⟨hc2,h1⟩
theorem Gi {C:Addr} {fp:List Addr} (S:j1 X N' ix scope) (I:qr X pins σ H s) (hC:s.heap.objs.size<=C) (hf:∀b∈fp,JY X pins H b) (hfo:∀b∈fp,b < s.heap.objs.size):(ZQ X N' scope C s H fp pins).Ok where
 mod:=I.ok.mod
 kind:=S.kind
 glob:=I.ok.glob
 blt:=I.ok.blt
 above:=hC
 inj:=λx y c h1 h2=>I.ok.inj x y c (S.clook I.ok h1).1 (S.clook I.ok h2).1
 has:=λx hx=>by
   have hx':(relabel scope X.env).names.lookup x=some .cell\/(relabel scope X.env).names.lookup x=some .free:=hx
   refine QV (.inl ?_)
   have go:∀k,(k=NameKind.cell\/k=.free)->(relabel scope X.env).names.lookup x=some k->(x,NameKind.free)∈scope.names:=λk hk h=>by
     obtain⟨j,h1,h2⟩:=JL (f:=λ(n,k)=>if (k==NameKind.free&&X.env.scope.kind==.function&&X.env.kindOf n==some .cell) then (n,NameKind.cell) else (n,k)) (λp=>by dsimp only;split<;>rfl) h
     have hm:=mem_of_lookup h1
     by_cases hj:j=.free
     . subst hj;exact hm
     . exfalso
       have hb:(j==NameKind.free)=false:=by simpa using hj
       dsimp only at h2
       rw[hb,Bool.false_and,Bool.false_and,if_neg (by decide)]at h2
       have h2':j=k:=h2
       rcases hk with e | e
       . exact S.cellH _ hm (h2'.trans e)
       . exact hj (h2'.trans e)
   rcases hx' with h | h
   . exact go _ (.inl rfl) h
   . exact go _ (.inr rfl) h
 cab:=λx c h _=>by cases h
 hd:=I.ok.hd
 frames:=I.ok.frames
 stk:=.inl rfl
 exf:=λb hb=>⟨Nat.ne_of_lt (Nat.lt_of_lt_of_le (hfo b hb) hC),λx c h=>(hf b hb).2.2.2.2.1 x c (S.clook I.ok h).1⟩
 bs:=I.bs
 bsz:=Nat.le_trans I.ok.bsz I.sz
 noex:=λb o e hb=>by
   rcases(hf b hb).2.2.2.1 with h | h
   . exact I.ok.noex b o e h
   . exact absurd (Nat.lt_of_lt_of_le (Heap.lt_size e) (Nat.le_trans I.ok.bsz h)) (Nat.lt_irrefl _)
 exfs:=λb hb hm=>by
   rcases List.mem_cons.mp (I.stkSub b hm) with e | e
   . exact(hf b hb).2.1 e
   . exact(hf b hb).2.2.1 e
 funs:=I.stack
 frf:=I.stkFree
theorem UO {C D:Addr} {fp:List Addr} {h₁:Heap} {m:Str->Option Value} {t':Nat} {n₀:Nat} (S:j1 X N' ix scope) (I:qr X pins σ H s) (hf:∀b∈fp,JY X pins H b) (hfo:∀b∈fp,b < s.heap.objs.size)
   (hD:s.heap.objs.size<=D) (hC:s.heap.objs.size<=C) (hDC:D≠C) (kp:∀b o,s.heap.get? b=some o->h₁.get? b=some o) (hn:h₁.Ns C m) (hl:h₁.get? D=some {cls:=.type "list",data:=.seq #[] n₀}):
   qr (ZQ X N' scope C s H fp pins) [] (wK ix σ) (upd H D (.lst [])) {s with heap:=h₁,toks:=t'} where
 ok:=Gi S I hC hf hfo
 os:=rfl
 bare:=I.bare
 base:=Un.laid kp hD (I.hok.fresh hD)
 loc:=by
   refine⟨m,hn,λi x v e1 e2 e3=>?_⟩
   have hix:=S.ixs
   unfold xK at hix
   rw[Bool.and_eq_true]at hix
   obtain⟨hlen,hall⟩:=hix
   have hlen':ix.length=N'.length:=by simpa using hlen
   have e1':N'[i]?=some x:=e1
   unfold wK at e2
   rw[List.getElem?_map]at e2
   cases ho:ix[i]? with
   | none=>rw[ho]at e2;cases e2
   | some o=>
     rw[ho]at e2
     cases o with
     | none=>cases e2
     | some j=>
       have e2':(σ[j]?).join=some v:=Option.some.inj e2
       have hz:(ix.zip N')[i]?=some (some j,x):=by
         rw[List.getElem?_zip_eq_some]
         exact⟨ho,e1'⟩
       have hm:=List.all_eq_true.mp hall _ (List.mem_of_getElem? hz)
       dsimp only at hm
       simp only[Bool.and_eq_true,beq_iff_eq,Bool.or_eq_true]at hm
       obtain⟨⟨hN,hfr⟩,hk⟩:=hm
       have e2'':σ[j]?=some (some v):=by
         cases q:σ[j]? with
         | none=>rw[q]at e2';cases e2'
         | some z=>
           rw[q]at e2'
           have:z=some v:=e2'
           rw[this]
       obtain⟨mX,hnX,hlX⟩:=I.loc
       have hvis:u6 X.env.scope x:=by
         rcases hk with h | h
         . exact .inr (.inl h)
         . exact .inr (.inr h)
       obtain⟨u,ru,lu⟩:=hlX j x v hN e2'' hvis
       refine⟨u,ru,?_⟩
       rcases lu with ⟨hk',_⟩ | ⟨_,c,hc,hcell⟩
       . exfalso
         have hk'':X.env.scope.names.lookup x=some .local:=hk'
         rcases hk with h | h<;>rw[h]at hk''<;>cases hk''
       . right
         obtain⟨k',r1,r2⟩:=Ze (scope:=scope) (env:=X.env) hfr
         refine⟨?_,?_⟩
         . rcases r2 with z | ⟨_,z⟩
           . right;rw[z]at r1;exact r1
           . left;rw[z]at r1;exact r1
         . obtain⟨c',hc'⟩:=QV (env:=X.env) (cs:=[]) (.inl (mem_of_lookup hfr))
           have:=(S.clook I.ok hc').1
           rw[hc]at this
           cases this
           obtain⟨o,ho',hd⟩:=hcell
           exact⟨c,hc',o,kp _ _ ho',hd⟩
 cell:=λx c h=>by
   obtain⟨v,o,ho,hd⟩:=I.cell x c (S.clook I.ok h).1
   exact⟨v,o,kp _ _ ho,hd⟩
 free:=by
   show (upd H D _) C=none
   rw[qg (Ne.symm hDC)]
   exact I.hok.fresh hC
 freeC:=λx c h=>by
   have h1:=(S.clook I.ok h).1
   obtain⟨v,o,ho,hd⟩:=I.cell x c h1
   rw[qg (Nat.ne_of_lt (Nat.lt_of_lt_of_le (Heap.lt_size ho) hD))]
   exact(I.freeC x c h1).imp id λz=>⟨rfl,z.2⟩
 pin:=λp hp=>by
   have hp':p∈X.pn++pins:=by
     have:p∈(X.pn++pins)++[]:=hp
     simpa using this
   obtain⟨e,n,ne,nf,d⟩:=I.pin p hp'
   have hlt:=Heap.lt_size e
   refine⟨kp _ _ e,?_,Nat.ne_of_lt (Nat.lt_of_lt_of_le hlt hC),λhm=>?_,d⟩
   . rw[qg (Nat.ne_of_lt (Nat.lt_of_lt_of_le hlt hD))];exact n
   . rcases List.mem_cons.mp (I.stkSub p.1 hm) with z | z
     . exact ne z
     . exact nf z
 hok:=I.hok.laid kp hD ⟨Nat.zero_le _,[],n₀,.nil,hl⟩
 len:=by
   have hix:=S.ixs
   unfold xK at hix
   rw[Bool.and_eq_true]at hix
   have:ix.length=N'.length:=by simpa using hix.1
   show (wK ix σ).length=N'.length
   unfold wK
   rw[List.length_map,this]
theorem kS {C:Addr} {fp:List Addr} {σ':St} {H':Hp} {s':Shared} {pl:List (Addr×Obj)} (I:qr X pins σ H s) (hf:∀b∈fp,JY X pins H b) (J:qr (ZQ X N' scope C s H fp pins) pl σ' H' s'):qr X pins σ H' s':=
 I.call' (ch:=fp) J.os J.base J.hok J.bare λb hb=>⟨(hf b hb).2.2.2.1,(hf b hb).2.1,(hf b hb).2.2.2.2.1,(hf b hb).2.2.2.2.2⟩
theorem kR {C:Addr} {H':Hp} {s₀ s':Shared} {h':Heap} (I₀:qr X pins σ H s₀) (I:qr X pins σ H' s') (hC:s₀.heap.objs.size<=C) (hn:H' C=none) (sb:Heap.SameBut C s'.heap h'):qr X pins σ H' {s' with heap:=h'}:=by
 refine I.turned (it:=C) (t':=s'.toks) (λb o hb e=>(sb.2 b hb).trans e) hn (Nat.ne_of_gt (Nat.lt_of_lt_of_le I₀.lt hC)) (.inr (Nat.le_trans I₀.sz hC)) (λx c e z=>?_) λp hp z=>?_
 . obtain⟨v,q⟩:=I₀.cell x c e
   exact absurd (Nat.lt_of_lt_of_le q.lt (by rw[z];exact hC)) (Nat.lt_irrefl _)
 . exact absurd (Nat.lt_of_lt_of_le (Heap.lt_size (I₀.pin p hp).1) (by rw[z];exact hC)) (Nat.lt_irrefl _)
end
def u7 (X:Cx) (ifs:List Expr) (t:TT):Prop:=
 ∀(pins:List (Addr×Obj)) (s:Shared) (σ:St) (H:Hp) (Q:Bool->Hp->Prop),qr X pins σ H s->t σ H Q->
   wpAny (model X.prog X.w) X.A (forIn ifs true λc r=>if r=true then do let ok <-isTrue c X.env (eval c X.env);pure (ForInStep.yield ok) else pure (ForInStep.yield r)) (TP X pins σ Q) X.xe s
@[irreducible] def yw (X:Cx) (ifs:List Expr) (t:TT):Prop:=u7 X ifs t
theorem yw.of {X:Cx} {ifs:List Expr} {t:TT} (h:u7 X ifs t):yw X ifs t:=by unfold yw;exact h
theorem yw.to {X:Cx} {ifs:List Expr} {t:TT} (h:yw X ifs t):u7 X ifs t:=by unfold yw at h;exact h
def GY:TT:=λ_ H Q=>Q true H
theorem Qc {X:Cx}:yw X [] GY:=.of (by
 exact λ_ _ _ H _ I h=>wpAny_tests_nil ⟨H,I,h⟩)
theorem VO {X:Cx} {c:Expr} {t:TT} (h:JT X c t):yw X [c] t:=.of (by
 have h:=h.to
 exact λpins s σ H Q I hw=>wpAny_tests_one (h pins s σ H Q I hw))
section
variable {prog:Program} {w:World} {A:Around} {R:Result->Shared->Prop} {s:Shared}
theorem Xo {elt target iter:Expr} {ifs:List Expr} {scope:Scope} {pos:Pos} {it acc:Value} {env:Env} (I:Nat->Shared->Prop)
   (turn:∀n s,I n s->wpAny (model prog w) A (pyNext it) (λr s₁=>match r with
     | none=>R (.ok .next) s₁
     | some v=>wpAny (model prog w) A (letOwnedTupleGo target it v) (λ_ s₁'=>wpAny (model prog w) A (assign target env v) (λ_ s₂=>
         wpAny (model prog w) A (forIn ifs true λc r=>if r=true then do let ok <-isTrue c env (eval c env);pure (ForInStep.yield ok) else pure (ForInStep.yield r)) (λok s₃=>
           if ok=true then wpAny (model prog w) A (eval elt env) (λx s₄=>
             wpAny (model prog w) A (call (.builtin "list.append") [acc,x]) (λ_ s₅=>∃m,m < n/\I m s₅) (λ_ _=>False) s₄) (λ_ _=>False) s₃
           else ∃m,m < n/\I m s₃) (λ_ _=>False) s₂) (λ_ _=>False) s₁') (λ_ _=>False) s₁) (λ_ _=>False) s)
   (n:Nat) (h:I n s):
   codeAny (model prog w) A (.compLoop (.ListComp elt [⟨target,iter,ifs,0⟩] scope pos) 0 it acc env) R s:=by
 refine codeAny_loop rfl I (λn s hI=>?_) n h
 show wpAny _ A ((compTurn (.ListComp elt [⟨target,iter,ifs,0⟩] scope pos) 0 it acc env).onRaise (λx=>do noteFrame x env;theTreesLotGoes x)) _ _ s
 refine wpAny_noted ?_
 rw[compTurn_list]
 refine wpAny_bind (wpAny_standAt (wpAny_bind (wpAny_mono (turn n s hI) (λr s₁ h₁=>?_) λ_ _ h'=>h'.elim)))
 cases r with
 | none=>exact wpAny_pure h₁
 | some v=>
   refine wpAny_bind (wpAny_mono h₁ (λ_ s₁' h₁'=>?_) λ_ _ h'=>h'.elim)
   refine wpAny_bind (wpAny_mono h₁' (λ_ s₂ h₂=>wpAny_bind (wpAny_mono h₂ (λok s₃ h₃=>?_) λ_ _ h'=>h'.elim)) λ_ _ h'=>h'.elim)
   cases ok with
   | false=>exact wpAny_pure ⟨rfl,h₃⟩
   | true=>
     exact wpAny_bind (wpAny_bind (wpAny_mono h₃ (λx s₄ h₄=>wpAny_bind (wpAny_mono h₄ (λ_ s₅ h₅=>wpAny_pure (wpAny_pure ⟨rfl,h₅⟩)) λ_ _ h'=>h'.elim)) λ_ _ h'=>h'.elim))
end
def Wy (J:It) (g:TG) (tt:TT) (te:TE) (D:Addr) (σ:St) (H:Hp) (Q:Hp->Prop):Prop:=
 ∃W:Nat->Nat->St->Hp->Prop,(∃m,W 0 m σ (upd H D (.lst [])))/\∀i m σ' H',W i m σ' H'->
   (J.stop i H'/\Q H')\/(J.go i H'/\∃N:St->Hp->Prop,(∀σ2 H2,N σ2 H2->∃m',m' < m/\W (i+1) m' σ2 H2)/\∀x H2,J.yld i H' x H2->g x σ' H2 λσ2 H3=>tt σ2 H3 λb H4=>
     if b=true then te σ2 H4 λv H5=>∃ys,H5 D=some (.lst ys)/\ys.length < sizeLine/\N σ2 (upd H5 D (.lst (ys++[v]))) else N σ2 H4)
def GG (wi:TI) (ix:List (Option Nat)) (g:TG) (tt:TT) (te:TE):TE:=λσ H Q=>wi σ H λJ H1=>∀D,H1 D=none->Wy J g tt te D (wK ix σ) H1 λH2=>Q (.ref D) H2
section
variable {X:Cx} {N':List Str} {ix:List (Option Nat)} {scope:Scope}
theorem YM {elt iter target:Expr} {ifs:List Expr} {pos:Pos} {g:TG} {tt:TT} {te:TE} {pins:List (Addr×Obj)} {σ:St} {H:Hp} {s:Shared} {it:Addr} {fp:List Addr} {tn:Nat->Heap->Prop} {J:It} {E:Value->Shared->Prop}
   {RR:Value->Addr->Result->Shared->Prop} {Q:Addr->Hp->Prop}
   (hc:X.calm=true) (S:j1 X N' ix scope) (I:qr X pins σ H s) (T:W4 X.prog X.w X.K target J fp it tn) (st:tn 0 s.heap) (hf:∀b∈fp,JY X pins H b)
   (hb:∀C s₂ H₂ fp pins,PG (ZQ X N' scope C s₂ H₂ fp pins) target g/\u7 (ZQ X N' scope C s₂ H₂ fp pins) ifs tt/\PE (ZQ X N' scope C s₂ H₂ fp pins) elt te)
   (h:∀D,H D=none->Wy J g tt te D (wK ix σ) H (Q D))
   (fin:∀(D C:Addr) (H':Hp) (s':Shared) (m:Str->Option Value),s.heap.objs.size<=C->H' C=none->s'.heap.Ns C m->qr X pins σ H' s'->Q D H'->RR (.ref D) C (.ok .next) s'):
   wpAny (model X.prog X.w) X.A (newList []) (λacc s₃=>wpAny (model X.prog X.w) X.A (newFunctionEnv scope X.env.globals (qS X.env scope.names []) [] X.env.qual none .none (some X.env)) (λcenv s₄=>
     codeAny (model X.prog X.w) X.A (.compStart (.ListComp elt [⟨target,iter,ifs,0⟩] scope pos) 0 (.ref it) acc {cenv with scope:=relabel scope X.env}) (RR acc cenv.locals) s₄) E s₃) E s:=by
 have hfo:∀b∈fp,b < s.heap.objs.size:=λb hb=>by
   obtain⟨o,e,_⟩:=T.obj _ _ st b hb
   exact Heap.lt_size e
 refine wpAny_newObj_type (wpAny_newFunctionEnv S.cellH (by intro y hy;simp at hy) (λh₁ hns₁ hsb₁=>?_) S.kind)
 dsimp only at hns₁ hsb₁ ⊢
 generalize hH2:s.heap.push {cls:=.type "list",dict:=none,data:=.seq ([]:List Value).toArray}=H2 at hns₁ hsb₁ ⊢
 have hC:H2.objs.size=s.heap.objs.size+1:=by rw[<-hH2,Heap.size_push]
 have hDC:s.heap.objs.size≠H2.objs.size:=by rw[hC];exact Nat.ne_of_lt (Nat.lt_succ_self _)
 have hCle:s.heap.objs.size<=H2.objs.size:=by rw[hC];exact Nat.le_succ _
 have below:∀b,b < s.heap.objs.size->b≠H2.objs.size:=λb hb=>by rw[hC];exact Nat.ne_of_lt (Nat.lt_succ_of_lt hb)
 have old:∀b o,s.heap.get? b=some o->h₁.get? b=some o:=λb o e=>hsb₁.extBut b o (below b (Heap.lt_size e)) (Heap.get?_push_of_some _ (hH2▸Heap.get?_push_of_some _ e))
 have hacc:h₁.get? s.heap.objs.size=some {cls:=.type "list",data:=.seq #[] 0}:=hsb₁.extBut _ _ hDC (Heap.get?_push_of_some _ (hH2▸Heap.get?_push_size _ rfl))
 obtain⟨W,⟨m0,w0⟩,turn⟩:=h s.heap.objs.size (I.hok.fresh (Nat.le_refl _))
 have I1:qr (ZQ X N' scope H2.objs.size s H fp pins) [] (wK ix σ) (upd H s.heap.objs.size (.lst [])) {s with heap:=h₁,toks:=s.toks+([]:List (Str×Value)).length}:=
   UO S I hf hfo (Nat.le_refl _) hCle hDC old hns₁ hacc
 have st₁:tn 0 h₁:=T.keep _ _ _ st λb hb o e=>old b o e
 have fpn:∀b∈fp,(upd H s.heap.objs.size (.lst [])) b=none:=λb hb=>by
   rw[qg (Nat.ne_of_lt (hfo b hb))]
   exact(hf b hb).1
 obtain⟨hg,htt,hte⟩:=hb H2.objs.size s H fp pins
 have okY:=I1.ok
 have stat:∀{H':Hp},(∀b∈fp,H' b=none)->∀b∈fp,JY (ZQ X N' scope H2.objs.size s H fp pins) [] H' b:=λ{H'} hn b hb=>
   ⟨hn b hb,(okY.exf b hb).1,okY.exfs b hb,.inl hb,(okY.exf b hb).2,λp hp=>by
     have hp':p∈X.pn++pins:=by
       have:p∈(X.pn++pins)++[]:=hp
       simpa using this
     exact(hf b hb).2.2.2.2.2 p hp'⟩
 have loop:codeAny (model X.prog X.w) X.A (.compLoop (.ListComp elt [⟨target,iter,ifs,0⟩] scope pos) 0 (.ref it) (.ref s.heap.objs.size) (compEnvC scope (qS X.env scope.names []) H2.objs.size X.env))
     (RR (.ref s.heap.objs.size) H2.objs.size) {s with heap:=h₁,toks:=s.toks+([]:List (Str×Value)).length}:=by
   refine Xo (λn s'=>∃i σ' H',qr (ZQ X N' scope H2.objs.size s H fp pins) [] σ' H' s'/\tn i s'.heap/\(∀b∈fp,H' b=none)/\W i n σ' H') ?_ m0 ⟨0,_,_,I1,st₁,fpn,w0⟩
   rintro n s3 ⟨i,σ3,H3,I3,st3,fr3,w3⟩
   rcases turn i n σ3 H3 w3 with ⟨stop,qn⟩ | ⟨go,NN,hNN,step⟩
   . refine je (T.done (ZQ X N' scope H2.objs.size s H fp pins) rfl rfl rfl hc i [] s3 σ3 H3 _ I3 (stat fr3) st3 stop) λr s4 ⟨hr,I4⟩=>?_
     subst hr
     obtain⟨mm,hnm,_⟩:=I4.loc
     exact fin _ _ H3 s4 mm hCle I4.free hnm (kS I hf I4) qn
   . refine je (T.item (ZQ X N' scope H2.objs.size s H fp pins) rfl rfl rfl hc i [] s3 σ3 H3 _ I3 (stat fr3) st3 go) λr s4 ⟨u,hr,h4⟩=>?_
     subst hr
     refine je h4 λ_ s5 ⟨x,H5,I5,r5,y5,st5,fr5⟩=>?_
     have I5':=I5.pinned (stat fr5) (T.obj _ _ st5)
     refine je (hg _ s5 σ3 H5 x u _ I5' r5 (step x H5 y5)) λ_ s6 ⟨σ6,H6,I6,q6⟩=>?_
     refine je (htt _ s6 σ6 H6 _ I6 q6) λok s7 ⟨H7,I7,q7⟩=>?_
     have again:∀{σ8:St} {H8:Hp} {s8:Shared},qr (ZQ X N' scope H2.objs.size s H fp pins) ([]++zt fp s5.heap) σ8 H8 s8->NN σ8 H8->
         ∃m,m < n/\∃i σ' H',qr (ZQ X N' scope H2.objs.size s H fp pins) [] σ' H' s8/\tn i s8.heap/\(∀b∈fp,H' b=none)/\W i m σ' H':=λ{σ8 H8 s8} I8 n8=>by
       obtain⟨m',hm,w8⟩:=hNN σ8 H8 n8
       refine⟨m',hm,i+1,σ8,H8,I8.unpinned,T.keep _ _ _ st5 λb hb o e=>(I8.pin (b,o) (List.mem_append_right _ (List.mem_append_right _ (QS hb e)))).1,λb hb=>?_,w8⟩
       obtain⟨o,e,d⟩:=T.obj _ _ st5 b hb
       exact(I8.pin (b,o) (List.mem_append_right _ (List.mem_append_right _ (QS hb e)))).2.1
     cases ok with
     | false=>
       rw[if_neg Bool.false_ne_true]at q7 ⊢
       exact again I7 q7
     | true=>
       rw[if_pos rfl]at q7 ⊢
       refine je (hte _ s7 σ6 H7 _ I7 q7) λv s8 ⟨y,H8,I8,r8,q8⟩=>?_
       obtain⟨ys,hy,hz,q8⟩:=q8
       refine je (ju (X:=ZQ X N' scope H2.objs.size s H fp pins) _ s8 σ6 H8 (.ref s.heap.objs.size) [y] (.ref s.heap.objs.size) [v] (λ_ H9=>NN σ6 H9) I8 rfl (.cons r8 .nil) ⟨_,ys,y,rfl,rfl,hy,hz,q8⟩) λ_ s9 ⟨_,H9,I9,_,q9⟩=>?_
       exact again I9 q9
 exact codeAny_compStart_list loop (T.self X.A 0 _ _ _ st₁ loop)
theorem KJ {elt iter target:Expr} {ifs:List Expr} {pos:Pos} {wi:TI} {g:TG} {tt:TT} {te:TE} (hc:X.calm=true) (S:j1 X N' ix scope) (hi:PI X target iter wi)
   (hb:∀C s₂ H₂ fp pins,PG (ZQ X N' scope C s₂ H₂ fp pins) target g/\u7 (ZQ X N' scope C s₂ H₂ fp pins) ifs tt/\PE (ZQ X N' scope C s₂ H₂ fp pins) elt te)
   (hs:∀x,foldedSetIterable iter X.env x=pure x:=by intro _;rfl):PE X (.ListComp elt [⟨target,iter,ifs,0⟩] scope pos) (GG wi ix g tt te):=by
 intro pins s σ H Q I h
 rw[eval_ListComp]
 refine wpAny_comprehension_free (use:=none) rfl hs (QB (S.freeH I.ok)) S.kind S.locH ?_
 refine je (hi pins s σ H _ I h) λxv s1 h1=>je h1 λitv s2 h2=>?_
 obtain⟨it,fp,tn,J,H2,e,I2,T,st2,f2,q2⟩:=h2
 subst e
 refine YM (RR:=λacc C=>compPost (model X.prog X.w) X.A X.xe none (EP X pins σ Q) acc C) (Q:=λD H'=>Q (.ref D) H') hc S I2 T st2 f2 hb q2 ?_
 intro D C H' s' m hC hn hm I' q
 exact⟨m,hm,λh' sb=>⟨.ref D,H',kR I2 I' hC hn sb,rfl,q⟩⟩
theorem Zk {elt iter target:Expr} {ifs:List Expr} {pos:Pos} {wi:TI} {g:TG} {tt:TT} {te:TE} (hc:X.calm=true) (S:j1 X N' ix scope) (hi:JI X target iter wi) (hb:∀C s₂ H₂ fp pins,JG (ZQ X N' scope C s₂ H₂ fp pins) target g/\yw (ZQ X N' scope C s₂ H₂ fp pins) ifs tt/\JE (ZQ X N' scope C s₂ H₂ fp pins) elt te) (hs:∀x,foldedSetIterable iter X.env x=pure x:=by intro _;rfl):JE X (.ListComp elt [⟨target,iter,ifs,0⟩] scope pos) (GG wi ix g tt te):=.of (KJ hc S hi.to (λC s₂ H₂ fp pins=>⟨(hb C s₂ H₂ fp pins).1.to,(hb C s₂ H₂ fp pins).2.1.to,(hb C s₂ H₂ fp pins).2.2.to⟩) hs)
theorem vN {i:Nat} {x:Str} {elt iter target:Expr} {ifs:List Expr} {pos spos px:Pos} {wi:TI} {g:TG} {tt:TT} {te:TE} (hN:X.N.Nodup) (hxi:X.N[i]?=some x) (hx:Kb X.env.scope x) (hc:X.calm=true) (S:j1 X N' ix scope) (hi:PI X target iter wi)
   (hb:∀C s₂ H₂ fp pins,PG (ZQ X N' scope C s₂ H₂ fp pins) target g/\u7 (ZQ X N' scope C s₂ H₂ fp pins) ifs tt/\PE (ZQ X N' scope C s₂ H₂ fp pins) elt te)
   (hsw:swapsWith (.ListComp elt [⟨target,iter,ifs,0⟩] scope pos) (some (.Name x px)) spos.line X.env=pure true:=by rfl)
   (hs:∀x,foldedSetIterable iter X.env x=pure x:=by intro _;rfl) (hf:X.fn x=true\/X.env.scope.names.lookup x=some .local:=by first | exact .inl rfl | exact .inr rfl | assumption):
   PS X (.Assign [.Name x px] (.ListComp elt [⟨target,iter,ifs,0⟩] scope pos) spos) (Yc (GG wi ix g tt te) (Qs i)):=by
 intro pins s σ H D I h
 rw[exec_Assign_Name_used _ _ _ _ hsw]
 refine wpAny_bind (wpAny_standAt (wpAny_bind ?_))
 show wpAny _ X.A (do let _ <-comprehension (.ListComp elt [⟨target,iter,ifs,0⟩] scope pos) scope X.env _ (newList []) false (eval iter X.env) (some (assign (.Name x px) X.env))) _ _ s
 refine wpAny_bind (je (wpAny_comprehension_free (use:=some (assign (.Name x px) X.env)) (Q:=λ_ s'=>SP X pins D .next s') rfl hs (QB (S.freeH I.ok)) S.kind S.locH ?_) λ_ s' hq=>wpAny_pure (wpAny_pure hq))
 refine je (hi pins s σ H _ I h) λxv s1 h1=>je h1 λitv s2 h2=>?_
 obtain⟨it,fp,tn,J,H2,e,I2,T,st2,f2,q2⟩:=h2
 subst e
 refine YM (RR:=λacc C=>compPost (model X.prog X.w) X.A X.xe (some (assign (.Name x px) X.env)) (λ_ s'=>SP X pins D .next s') acc C) (Q:=λD' H'=>Qs i (.ref D') σ H' D.nx) hc S I2 T st2 f2 hb q2 ?_
 intro D' C H' s' m hC hn hm I' q
 show wpAny _ X.A (assign (.Name x px) X.env (.ref D')) _ _ _
 refine wpAny_assign_Name (Zu I' hN hxi hx (v:=.ref D') rfl (λs'' I'' hch=>?_) hf)
 obtain⟨a,sb,ha⟩:=hch
 have hCa:C≠a:=by
   rcases ha with z | z
   . rw[z];exact Nat.ne_of_gt (Nat.lt_of_lt_of_le I2.lt hC)
   . intro e
     obtain⟨v,qc⟩:=I2.cell x a z
     exact absurd (Nat.lt_of_lt_of_le qc.lt (by rw[<-e];exact hC)) (Nat.lt_irrefl _)
 refine⟨m,hm.sameBut sb hCa,λh' sb'=>?_⟩
 refine⟨_,H',?_,q⟩
 refine I''.turned (it:=C) (t':=s''.toks) (λb o hb e=>(sb'.2 b hb).trans e) hn (Nat.ne_of_gt (Nat.lt_of_lt_of_le I2.lt hC)) (.inr (Nat.le_trans I2.sz hC)) (λy c e z=>?_) λp hp z=>?_
 . obtain⟨v,qc⟩:=I2.cell y c e
   exact absurd (Nat.lt_of_lt_of_le qc.lt (by rw[z];exact hC)) (Nat.lt_irrefl _)
 . exact absurd (Nat.lt_of_lt_of_le (Heap.lt_size (I2.pin p hp).1) (by rw[z];exact hC)) (Nat.lt_irrefl _)
theorem zJ {i:Nat} {x:Str} {elt iter target:Expr} {ifs:List Expr} {pos spos px:Pos} {wi:TI} {g:TG} {tt:TT} {te:TE} (hN:X.N.Nodup) (hxi:X.N[i]?=some x) (hx:Kb X.env.scope x) (hc:X.calm=true) (S:j1 X N' ix scope) (hi:JI X target iter wi) (hb:∀C s₂ H₂ fp pins,JG (ZQ X N' scope C s₂ H₂ fp pins) target g/\yw (ZQ X N' scope C s₂ H₂ fp pins) ifs tt/\JE (ZQ X N' scope C s₂ H₂ fp pins) elt te) (hsw:swapsWith (.ListComp elt [⟨target,iter,ifs,0⟩] scope pos) (some (.Name x px)) spos.line X.env=pure true:=by rfl) (hs:∀x,foldedSetIterable iter X.env x=pure x:=by intro _;rfl) (hf:X.fn x=true\/X.env.scope.names.lookup x=some .local:=by first | exact .inl rfl | exact .inr rfl | assumption):JS X (.Assign [.Name x px] (.ListComp elt [⟨target,iter,ifs,0⟩] scope pos) spos) (Yc (GG wi ix g tt te) (Qs i)):=.of (vN hN hxi hx hc S hi.to (λC s₂ H₂ fp pins=>⟨(hb C s₂ H₂ fp pins).1.to,(hb C s₂ H₂ fp pins).2.1.to,(hb C s₂ H₂ fp pins).2.2.to⟩) hsw hs hf)
end
end L2
set_option Elab.async false
set_option linter.all false
set_option maxRecDepth 100000
set_option maxHeartbeats 4000000
namespace L2
open PySem PySem.Spec PyProof.Rows
def R5 (x:Str):It:=⟨λi _=>i < x.cps.size,λi H v H'=>H'=H/\∃c,x.cps[i]?=some c/\v=.str ⟨#[c]⟩,λi _=>i=x.cps.size⟩
theorem XB {P:Program} {w:World} {K:PySem.W.Frag} {tg:Expr} (it:Addr) (x:Str) (t:Tok) (ty:String)
   (hn:["enumerate","zip","dict_itemiterator","dict_reverseitemiterator","odict_iterator","itertools.zip_longest","itertools.pairwise"].contains ty=false)
   (hW:∀A:Around,A.handled=none->Walks P w A it [it] [it] x.cps.size (SignAt x) (λi h=>h.IsStrIter it ty x t i))
   (hself:∀(A:Around) (i:Nat) (s:Shared) (Q:Value->Shared->Prop) (E:Value->Shared->Prop),s.heap.IsStrIter it ty x t i->Q (.ref it) s->wpAny (model P w) A (pyIter (.ref it)) Q E s):
   W4 P w K tg (R5 x) [it] it (λi h=>h.IsStrIter it ty x t i) where
 mem:=by simp
 obj:=λi h st b hb=>by
   have e:b=it:=by simpa using hb
   subst e
   obtain⟨o,e,c,d⟩:=st
   exact⟨o,e,λv z=>by rw[d]at z;cases z⟩
 keep:=λi h h' st k=>let ⟨o,e,r⟩:=st;⟨o,k it (by simp) o e,r⟩
 item:=by
   intro X hP hw hK hc i pins s σ H E I hf st hg
   subst hP hw hK
   obtain⟨f0,f1,f2,f3,f4,f5⟩:=hf it (by simp)
   refine(hW X.A (I.ok.hd hc)).item i s _ _ hg st λv h' tk hv st' kk=>?_
   obtain⟨c,u,hcu,rfl⟩:=hv
   have I1:qr X pins σ H {s with heap:=h',toks:=tk}:=I.turned (λb o hb e=>kk b o (by simpa using hb) e) f0 f1 f3 f4 f5
   obtain⟨o,e,c1,d1⟩:=id st'
   exact⟨_,rfl,VU (s:={s with heap:=h',toks:=tk}) e c1 d1 hn ⟨.str ⟨#[c]⟩,H,I1,⟨u,rfl⟩,⟨rfl,c,hcu,rfl⟩,st',λb hb=>(hf b hb).1⟩⟩
 done:=by
   intro X hP hw hK hc i pins s σ H E I hf st hg
   subst hP hw hK
   obtain⟨f0,f1,f2,f3,f4,f5⟩:=hf it (by simp)
   have hi:i=x.cps.size:=hg
   subst hi
   exact(hW X.A (I.ok.hd hc)).done s _ _ st λh' tk kk=>⟨rfl,I.turned (λb o hb e=>kk b o (by simpa using hb) e) f0 f1 f3 f4 f5⟩
 self:=hself
def RS (tl:TE):TI:=λσ H R=>tl σ H λx H1=>∃y,x=.str y/\R (R5 y) H1
theorem uE {X:Cx} {tg l:Expr} {tl:TE} (hl:JE X l tl):JI X tg l (RS tl):=.of (by
 have hl:=hl.to
 intro pins s σ H R I h
 refine je (hl pins s σ H _ I h) λv s1 ⟨x,H1,I1,r1,q1⟩=>?_
 obtain⟨y,e,q⟩:=q1
 subst e
 obtain⟨t,rfl⟩:=r1
 have fp:∀b∈[s1.heap.objs.size],JY X pins H1 b:=λb hb=>by
   have e:b=s1.heap.objs.size:=by simpa using hb
   subst e
   exact I1.fpOk (Nat.le_refl _) (I1.hok.fresh (Nat.le_refl _))
 cases ha:y.cps.all (· < 128)
 . refine wpAny_pyIter_wide ha ?_
   exact⟨s1.heap.objs.size,[s1.heap.objs.size],_,_,H1,rfl,I1.kept (t':=s1.toks) λb o e=>Heap.get?_push_of_some _ e,
     XB _ y t "str_iterator" (by decide) (λA hA=>Walks.strWide hA _ y t) (λA i s Q E st q=>wpAny_pyIter_striter_wide st q),⟨_,Heap.get?_push_size _ rfl,rfl,rfl⟩,fp,q⟩
 . refine wpAny_pyIter_ascii ha ?_
   exact⟨s1.heap.objs.size,[s1.heap.objs.size],_,_,H1,rfl,I1.kept (t':=s1.toks) λb o e=>Heap.get?_push_of_some _ e,
     XB _ y t "str_ascii_iterator" (by decide) (λA hA=>Walks.strAscii hA _ y t) (λA i s Q E st q=>wpAny_pyIter_striter_ascii st q),⟨_,Heap.get?_push_size _ rfl,rfl,rfl⟩,fp,q⟩)
section
variable {K:PySem.W.Frag} {g:TG} {tt:TT} {te:TE} {D a:Addr} {σ:St} {H:Hp} {Q:Hp->Prop}
def Wl (tt:TT) (te:TE) (D:Addr) (N:St->Hp->Prop):St->Hp->Prop:=λσ2 H3=>tt σ2 H3 λb H4=>
 if b=true then te σ2 H4 λv H5=>∃ys,H5 D=some (.lst ys)/\ys.length < sizeLine/\N σ2 (upd H5 D (.lst (ys++[v]))) else N σ2 H4
theorem Xs {J:It} {n:Nat} (Pv:Nat->St->Hp->Prop) (h0:Pv 0 σ (upd H D (.lst [])))
   (go:∀i σ' H',i < n->Pv i σ' H'->J.go i H'/\∀x H2,J.yld i H' x H2->g x σ' H2 (Wl tt te D (Pv (i+1)))) (stop:∀σ' H',Pv n σ' H'->J.stop n H'/\Q H'):Wy J g tt te D σ H Q:=by
 refine⟨λi m σ' H'=>m=n - i/\i<=n/\Pv i σ' H',⟨n,by simp,Nat.zero_le _,h0⟩,?_⟩
 rintro i m σ' H' ⟨rfl,hi,p⟩
 by_cases hlt:i < n
 . obtain⟨h1,h2⟩:=go i σ' H' hlt p
   exact .inr ⟨h1,Pv (i+1),λσ2 H2 p2=>⟨n - (i+1),by omega,rfl,hlt,p2⟩,h2⟩
 . have e:i=n:=by omega
   subst e
   exact .inl (stop σ' H' p)
theorem Jv {lo:Int} {n:Nat} (Pv:Nat->St->Hp->Prop) (h0:Pv 0 σ (upd H D (.lst [])))
   (hs:∀i σ' H',i < n->Pv i σ' H'->g (.int (lo+i)) σ' H' (Wl tt te D (Pv (i+1)))) (hd:∀σ' H',Pv n σ' H'->Q H'):Wy (uV lo n) g tt te D σ H Q:=
 Xs (n:=n) Pv h0 (λi σ' H' hi p=>⟨hi,λx H2 y=>by
   obtain⟨e,y⟩:=y
   subst e y
   exact hs i σ' H2 hi p⟩) λσ' H' p=>⟨Nat.le_refl _,hd σ' H' p⟩
theorem QP {xs:List V} (Pv:Nat->St->Hp->Prop) (h0:Pv 0 σ (upd H D (.lst []))) (hl:∀i σ' H',i<=xs.length->Pv i σ' H'->SqL K H' a xs)
   (hs:∀i x σ' H',xs[i]?=some x->Pv i σ' H'->g x σ' H' (Wl tt te D (Pv (i+1)))) (hd:∀σ' H',Pv xs.length σ' H'->Q H'):Wy (Kd K a) g tt te D σ H Q:=
 Xs (n:=xs.length) Pv h0 (λi σ' H' hi p=>⟨⟨xs,xs[i],hl i σ' H' (Nat.le_of_lt hi) p,by simp [hi]⟩,λx H2 y=>by
   obtain⟨e,y⟩:=y
   subst e
   exact hs i x σ' _ (y xs (hl i σ' _ (Nat.le_of_lt hi) p)) p⟩) λσ' H' p=>⟨⟨xs,hl _ σ' H' (Nat.le_refl _) p,Nat.le_refl _⟩,hd σ' H' p⟩
theorem xW {xs:List V} (Pv:Nat->St->Hp->Prop) (h0:Pv 0 σ (upd H D (.lst []))) (hl:∀i σ' H',i<=xs.length->Pv i σ' H'->SqT K H' a xs)
   (hs:∀i x σ' H',xs[i]?=some x->Pv i σ' H'->g x σ' H' (Wl tt te D (Pv (i+1)))) (hd:∀σ' H',Pv xs.length σ' H'->Q H'):Wy (Kc K a) g tt te D σ H Q:=
 Xs (n:=xs.length) Pv h0 (λi σ' H' hi p=>⟨⟨xs,xs[i],hl i σ' H' (Nat.le_of_lt hi) p,by simp [hi]⟩,λx H2 y=>by
   obtain⟨e,y⟩:=y
   subst e
   exact hs i x σ' _ (y xs (hl i σ' _ (Nat.le_of_lt hi) p)) p⟩) λσ' H' p=>⟨⟨xs,hl _ σ' H' (Nat.le_refl _) p,Nat.le_refl _⟩,hd σ' H' p⟩
theorem xX {x:Str} (Pv:Nat->St->Hp->Prop) (h0:Pv 0 σ (upd H D (.lst [])))
   (hs:∀i c σ' H',x.cps[i]?=some c->Pv i σ' H'->g (.str ⟨#[c]⟩) σ' H' (Wl tt te D (Pv (i+1)))) (hd:∀σ' H',Pv x.cps.size σ' H'->Q H'):Wy (R5 x) g tt te D σ H Q:=
 Xs (n:=x.cps.size) Pv h0 (λi σ' H' hi p=>⟨hi,λv H2 y=>by
   obtain⟨e,c,hc,rfl⟩:=y
   subst e
   exact hs i c σ' _ hc p⟩) λσ' H' p=>⟨rfl,hd σ' H' p⟩
end
section
variable {X:Cx}
theorem zW:∀(bs:List Bool),(List.range bs.length).all (λi=>bs.getD i false)=bs.all id:=by
 intro bs
 induction bs with
 | nil=>rfl
 | cons b bs ih=>
   rw[List.length_cons,List.range_succ_eq_map,List.all_cons,List.all_map,List.all_cons]
   have:((λi=>(b::bs).getD i false) ∘ Nat.succ)=λi=>bs.getD i false:=by
     funext i
     simp [Function.comp]
   rw[this,ih]
   simp
theorem YL (hc:X.calm=true):j8 X (.builtin "all") (λxs H Q=>∃(p:Addr) (bs:List Bool),xs=[.ref p]/\SqL X.K H p (bs.map V.bl)/\Q (.bl (bs.all id)) H):=by
 intro pins s σ H xs us Q I r h
 obtain⟨p,bs,rfl,hq,q⟩:=h
 obtain⟨u,rfl,rx⟩:=Qu r
 cases rx
 obtain⟨its,rv,pl,hz⟩:=I.list hq
 have hlt:p < s.heap.objs.size:=by
   obtain⟨o,n,e,_⟩:=pl
   exact Heap.lt_size e
 have hn:its.toArray.size=bs.length:=by
   have:=rv.length
   rw[List.length_map]at this
   simp only[List.size_toArray]
   omega
 have hh:X.A.in1.handled=none:=I.ok.hd hc
 refine call_all_walk (wpAny_pyIter_list pl.isList ?_)
 refine⟨s.heap.objs.size,[s.heap.objs.size,p],[s.heap.objs.size],its.toArray.size,λi v=>its.toArray[i]?=some v,_,λi=>bs.getD i false,rfl,Walks.list hh s.heap.objs.size p (Nat.ne_of_lt hlt) its.toArray,
   ⟨⟨_,Heap.get?_push_size _ rfl,rfl,rfl⟩,pl.isList.at λo e=>Heap.get?_push_of_some _ e⟩,?_,λh' tk hk=>?_⟩
 . intro i v s' Q' E' hP hQ
   have hi:its[i]?=some v:=by simpa using hP
   have hb:∃b,bs[i]?=some b/\v=Value.bool b:=by
     cases e:bs[i]? with
     | none=>
       exfalso
       have h1:(bs.map V.bl)[i]?=none:=by rw[List.getElem?_map,e];rfl
       rw[qC.none_of rv h1]at hi
       cases hi
     | some b=>
       have h1:(bs.map V.bl)[i]?=some (V.bl b):=by rw[List.getElem?_map,e];rfl
       obtain⟨u,hu,ru⟩:=rv.get h1
       rw[hi]at hu
       cases hu
       exact⟨b,rfl,ru⟩
   obtain⟨b,e,rfl⟩:=hb
   refine wpAny_truthy_bool ?_
   have e2:bs.getD i false=b:=by rw[List.getD_eq_getElem?_getD,e];rfl
   have hQ':Q' (bs.getD i false) s':=hQ
   rw[e2]at hQ'
   exact hQ'
 . rw[hn,zW]
   refine⟨.bl (bs.all id),H,?_,rfl,q⟩
   exact I.kept (h':=h') (t':=tk) λb o e=>hk b o (by
     intro z
     have z':b=s.heap.objs.size:=by simpa using z
     exact absurd (Heap.lt_size e) (by rw[z'];exact Nat.lt_irrefl _)) (Heap.get?_push_of_some _ e)
theorem Wz {ys:List Str}:∀{us:List Value},qC (ys.map V.str) us->StrsAre us ys:=by
 induction ys with
 | nil=>
   intro us r
   rw[List.map_nil]at r
   cases r
   exact .nil
 | cons y ys ih=>
   intro us r
   rw[List.map_cons]at r
   cases r with
   | cons a b=>
     obtain⟨t,rfl⟩:=a
     exact .cons _ _ (ih b)
def KG (K:PySem.W.Frag):V->List V->Hp->VK->Prop:=λx xs H Q=>∃(sep:Str) (p:Addr) (ys:List Str),x=.str sep/\xs=[.ref p]/\SqL K H p (ys.map V.str)/\(ys.map (·.length)).sum+ys.length*sep.length<=16777216/\Q (.str (Txt.join sep ys)) H
theorem xC:GS X "str.join" (KG X.K):=by
 intro pins s σ H x xs v us Q I rx rv h
 obtain⟨sep,p,ys,rfl,rfl,hq,hz,q⟩:=h
 obtain⟨t,rfl⟩:=rx
 obtain⟨u,rfl,ru⟩:=Qu rv
 cases ru
 obtain⟨its,r',pl,_⟩:=I.list hq
 exact join_list pl.isList (by simpa using Wz r') hz λt' k=>⟨.str _,H,I.tok k,⟨t',rfl⟩,q⟩
def xV:V->Value
 | .ty n=>.type n
 | .ref a=>.ref a
 | _=>.none
def wD:V->Bool
 | .ty _=>true
 | .ref _=>true
 | _=>false
def KH (K:PySem.W.Frag):List V->Hp->VK->Prop:=λxs H Q=>∃x c t b,xs=[x,c]/\wD c=true/\TyOf K H x t/\PySem.W.kitOne K t (xV c)=some b/\Q (.bl b) H
theorem jz:j8 X (.builtin "isinstance") (KH X.K):=by
 intro pins s σ H xs us Q I r h
 obtain⟨x,c,t,b,rfl,hc,ty,e,q⟩:=h
 obtain⟨u,w',rfl,ru,rw'⟩:=Ve r
 have ew:w'=xV c:=by
   cases c with
   | ty n=>exact rw'
   | ref a=>exact rw'
   | _=>cases hc
 subst ew
 exact UM I ru ty e λtk=>⟨.bl b,H,I.tok tk,rfl,q⟩
end
end L2
namespace L2
open PySem PySem.Spec PyProof.Rows
end L2
set_option Elab.async false
set_option linter.all false
set_option maxRecDepth 100000
set_option maxHeartbeats 4000000
namespace L2
open PySem PySem.Spec PyProof.Rows
abbrev Kg (rest:List Value):Obj:={cls:=.type "tuple",data:=.seq rest.toArray}
abbrev uN (C t:Addr):Obj:={cls:=.ref C,data:=.fields #[.ref t,.none,.none,.none,.bool false,.none]}
section
variable {prog:Program} {w:World} {A:Around} {E:Value->Shared->Prop} {h:Heap} {g:Array GenState} {d:Drawn} {t:Nat} {os:OsState}
variable {nm q:Str} {C N fI:Addr} {bs bm bmB bmN:List Value} {hdct:Bool} {sn:List Str} {sub:List Value} {ab:Bool} {col:Option Bool} {dd:Option Addr} {k0 k1 k2 k3 k5:Option Value} {B Bn newId nid initId inN:String} {rest:List Value} {oI:Obj}
theorem Wv {Q:Fin->Shared->Prop} (Fn:ExcBaseFacts Bn newId inN bmN) (hBn:bmB.contains (.type Bn)=true)
   (F:ExcBaseFacts B nid initId bmB) (T:OwnTail h bmB bm)
   (hC:h.get? C=some (excClassObj nm q C N bs bm hdct sn sub ab col dd k0 k1 k2 k3 k5 newId))
   (hi:PySem.W.Looks (model prog w) h (typeLookup (.ref C) "__init__") (some (.ref fI))) (hfI:h.get? fI=some oI) (hfc:oI.cls=.type "function")
   (hq:∀h' e,h.objs.size<=e->Heap.MadeExcOf h h' e (.ref C) rest->
     wpAny (model prog w) A (call (.ref fI) (.ref e::rest)) (λr s'=>r=.none/\Q (.done (.ret (.ref e))) s') E ⟨h',g,d,t,os⟩)
   (hz:rest.length<=sizeLine):
   wpAny (model prog w) A (Builtin.«type.__call__» ⟨.ref C::rest,[]⟩) Q E ⟨h,g,d,t,os⟩:=by
 repeat (first
   | with_reducible refine wpAny_loadPart_at hC ?_
   | with_reducible refine wpAny_madeBy_exc hC ?_
   | wp_step)
 refine codeAny_call_builtin_code (Code.quiet_builtin _ Fn.quiet) (wpAny_check_new_subU Fn hBn T hC
   (codeAny_exc_new_subU Fn hBn F T hC ?_ hz))
 show wpAny _ _ _ _ _ _
 have k:∀b o,h.get? b=some o->((h.push (Kg rest)).push (uN C h.objs.size)).get? b=some o:=λb o e=>
   Heap.get?_push_of_some _ (Heap.get?_push_of_some _ e)
 have c1:=k _ _ hC
 have f1:=k _ _ hfI
 have i1:=hi.keeps k
 have e1:((h.push (Kg rest)).push (uN C h.objs.size)).get? (h.objs.size+1)=some (uN C h.objs.size):=by heap_get
 have hcC:(Value.ref C::bm).contains (.ref C)=true:=by simp
 unfold isInstance
 repeat (first
   | with_reducible refine wpAny_loadPart_at e1 ?_
   | (with_reducible refine wpAny_isSubtype_exc c1 ?_;rw[hcC])
   | wp_step)
 show wpAny _ _ (typeLookup (.ref C) _) _ _ _
 refine i1.at ?_
 refine wpAny_holding (wpAny_bind ?_)
 unfold bindSpecial
 refine wpAny_bind (wpAny_typeOf (T:="function") ⟨_,f1,hfc⟩ ?_)
 rw[if_pos (by decide)]
 refine wpAny_pure (wpAny_bind (je (hq _ (h.objs.size+1) (Nat.le_succ _) ⟨k,Heap.get?_none_of_le (Nat.le_succ _),h.objs.size,e1,Heap.get?_none_of_le (Nat.le_refl _),?_⟩) λr s' hr=>?_))
 . exact Heap.get?_push_of_some _ (Heap.get?_push_at rfl rfl)
 . obtain⟨rfl,hQ⟩:=hr
   wp_walk
   exact hQ
theorem U4 {Q:Value->Shared->Prop} (Fn:ExcBaseFacts Bn newId inN bmN) (hBn:bmB.contains (.type Bn)=true)
   (F:ExcBaseFacts B nid initId bmB) (T:OwnTail h bmB bm)
   (hC:h.get? C=some (excClassObj nm q C N bs bm hdct sn sub ab col dd k0 k1 k2 k3 k5 newId))
   (hi:PySem.W.Looks (model prog w) h (typeLookup (.ref C) "__init__") (some (.ref fI))) (hfI:h.get? fI=some oI) (hfc:oI.cls=.type "function")
   (hq:∀h' e,h.objs.size<=e->Heap.MadeExcOf h h' e (.ref C) rest->
     wpAny (model prog w) (A.under (.builtin "type.__call__" ⟨.ref C::rest,[]⟩)) (call (.ref fI) (.ref e::rest)) (λr s'=>r=.none/\Q (.ref e) s') E ⟨h',g,d,t,os⟩)
   (hz:rest.length<=sizeLine):
   wpAny (model prog w) A (call (.ref C) rest) Q E ⟨h,g,d,t,os⟩:=by
 have a1:=tc_lookup
 have a2:=tc_bind (.ref C)
 have a3:(⟨h,g,d,t,os⟩:Shared).TypeIs (.ref C) "type":=⟨_,hC,rfl⟩
 refine wpAny_call (codeAny_of_tree ?_)
 show wpAny _ _ (callAny (.ref C) _) _ _ _
 repeat (any_goals (first
   | assumption
   | with_reducible refine wpAny_loadPart_at hC ?_
   | wp_step))
 refine⟨rfl,codeAny_call_builtin_at (Code.quiet_builtin _ (by decide+kernel)) entry_typeCall
   (wpAny_check_type_call_sub hC (Wv Fn hBn F T hC hi hfI hfc (λh' e he hm=>?_) hz))⟩
 exact hq h' e he hm
end
end L2
namespace L2
open PySem PySem.W PyProof.Rows Builtin Builtin.ObjectAttr
structure ZW (K:Frag) (C:Addr) (bm:List Value):Prop where
 ga:findIn K (.ref C) "__getattribute__"=some (some (.builtin "BaseException.__getattribute__"))
 gt:findIn K (.ref C) "__getattr__"=some none
 sa:findIn K (.ref C) "__setattr__"=some (some (.builtin "object.__setattr__"))
 hd:hasDictIn K C=true
 mr:∃cd,clsIn K C=some cd/\cd.mro=.ref C::bm
 mb:mroIn K C (.type "BaseException")=some true
 mo:mroIn K C (.type "object")=some true
 cl:findIn K (.ref C) "__class__"=some (some (.builtin "object.__class__"))
def WK:List Value->Prop
 | .ref _::r=>WK r
 | l=>l=[.type "ValueError",.type "Exception",.type "BaseException",.type "object"]
theorem VB (self:Value):∀{l:List Value},WK l->refuseLoop self "__setattr__" l=pure ()
 | .ref c::r,e=>by rw[refuseLoop_ref];exact VB self (l:=r) e
 | [],e=>nomatch (show ([]:List Value)=[.type "ValueError",.type "Exception",.type "BaseException",.type "object"] from e)
 | .type n::r,e=>by
   have e':(Value.type n::r)=[.type "ValueError",.type "Exception",.type "BaseException",.type "object"]:=e
   rw[e'];kernel_rfl
 | .none::r,e=>by have e':(Value.none::r)=[.type "ValueError",.type "Exception",.type "BaseException",.type "object"]:=e;cases e'
 | .bool _::r,e=>by have e':_=[Value.type "ValueError",.type "Exception",.type "BaseException",.type "object"]:=e;cases e'
 | .int _ _::r,e=>by have e':_=[Value.type "ValueError",.type "Exception",.type "BaseException",.type "object"]:=e;cases e'
 | .float _ _::r,e=>by have e':_=[Value.type "ValueError",.type "Exception",.type "BaseException",.type "object"]:=e;cases e'
 | .str _ _::r,e=>by have e':_=[Value.type "ValueError",.type "Exception",.type "BaseException",.type "object"]:=e;cases e'
 | .bytes _ _::r,e=>by have e':_=[Value.type "ValueError",.type "Exception",.type "BaseException",.type "object"]:=e;cases e'
 | .builtin _::r,e=>by have e':_=[Value.type "ValueError",.type "Exception",.type "BaseException",.type "object"]:=e;cases e'
section
variable {prog:Program} {w:World} {A:Around} {E:Value->Shared->Prop} {s:Shared} {K:Frag} {x C:Addr} {ox:Obj} {od:Option Obj} {bm:List Value} {name:Str} {v:Value}
theorem xh {tk:Tok} {R:Result->Shared->Prop} (X:K.In s.heap) (I:InstAt s.heap x ox C od) (c:ZW K C bm) (hb:WK bm) (ht:findIn K (.ref C) name=some none)
   (h:∀b,wpAny (model prog w) A.in1 (storeInOwnDict (.ref x) (.ref C) (.str name tk) name v b)
     (λfin s'=>match fin with | .done f=>R (.ok f) s' | .again c'=>c'.quiet=true/\codeAny (model prog w) A c' R s') (λe s'=>R (.error e) s') s):
   codeAny (model prog w) A (.call (.builtin "object.__setattr__") ⟨[.ref x,.str name tk,v],[]⟩) R s:=by
 have SF:=PySem.F.store_object
 obtain⟨cd,hc,hm⟩:=c.mr
 have sub:Looks (model prog w) s.heap (isInstance (.ref x) (.type "object")) true:=I.type.andThen (looks_mroIn X c.mo)
 refine codeAny_call_builtin SF.slot.plain SF.entry
   (@check_slot (model prog w) _ _ s "object.__setattr__" "object" "__setattr__" (.ref x) [.str name tk,v] [] _ SF.kind SF.split sub (SF.args (.ref x) (.str name tk) v) ?_)
 have lm:Looks (model prog w) s.heap (mroOf (.ref C)) cd.mro:=(looks_clsIn X hc).andThen .now
 rw[osa_eq,refuse_eq]
 refine wpAny_bind (wpAny_bind (I.type.here (wpAny_bind (lm.here ?_))))
 rw[hm,refuseLoop_ref,VB _ hb]
 refine wpAny_pure (wpAny_bind (I.type.here (wpAny_bind ((looks_findIn X ht).here ?_))))
 exact wpAny_bind (wpAny_pure (h _))
theorem vB {Q:Unit->Shared->Prop} (X:K.In s.heap) (hx:s.heap.get? x=some ox) (hc:ox.cls=.ref C) (hdc:ox.dict=none) (hda:∃fl,ox.data=.fields fl) (c:ZW K C bm) (hb:WK bm) (ht:findIn K (.ref C) name=some none)
   (h:∀h' tk,h'.get? x=some {ox with dict:=some s.heap.objs.size}->h'.Ns1 s.heap.objs.size (λy=>if y=name then some v else none)->
     (∀b o,b≠x->s.heap.get? b=some o->h'.get? b=some o)->Q () {s with heap:=h',toks:=tk}):
   wpAny (model prog w) A (setAttr (.ref x) name v) Q E s:=by
 obtain⟨fl,hfl⟩:=hda
 obtain⟨oc,odi,oda,osl⟩:=ox
 dsimp only at hc hdc hfl
 subst hc hdc hfl
 have I:InstAt s.heap x ⟨.ref C,none,.fields fl,osl⟩ C none:=⟨hx,rfl,rfl,trivial⟩
 refine set_plain X I c.sa (xh (s:={s with toks:=s.toks+1}) X I c hb ht λb=>?_)
 obtain⟨cd,hcd,hdd⟩:=any_some c.hd
 refine wpAny_bind (wpAny_pure (wpAny_bind (wpAny_bind (wpAny_loadPart hx (wpAny_bind (Looks.here (s:={s with toks:=s.toks+1}) (looks_clsIn X hcd) ?_))))))
 rw[hdd]
 have hne:x≠s.heap.objs.size:=Nat.ne_of_lt (Heap.lt_size hx)
 have h1:=Heap.get?_push_of_some PySem.W.emptyDict hx
 refine wpAny_bind (wpAny_alloc (wpAny_bind (wpAny_update h1 ?_)))
 generalize hh2:(s.heap.push emptyDict).update x (λo=>{o with dict:=some s.heap.objs.size})=h2
 have e2:h2.get? x=some ⟨.ref C,some s.heap.objs.size,.fields fl,osl⟩:=by rw[<-hh2];exact Heap.get?_update_self _ h1 rfl
 have k2:∀b o,b≠x->(s.heap.push emptyDict).get? b=some o->h2.get? b=some o:=λb o hb e=>by rw[<-hh2,Heap.get?_update_other _ _ (Ne.symm hb)];exact e
 have n0:(s.heap.push emptyDict).Ns s.heap.objs.size (λ_=>none):=⟨emptyDict,#[],_,Heap.get?_push_size s.heap rfl,rfl,(λe he=>absurd he (by simp)),λ_=>rfl⟩
 have n2:h2.Ns1 s.heap.objs.size (λ_=>none):=(Heap.Ns1.of_empty n0).at λo q=>k2 _ o (Ne.symm hne) q
 refine wpAny_pure (a:=some s.heap.objs.size) (wpAny_bind (wpAny_pure (wpAny_bind ?_)))
 refine wpAny_nsSet1 (s:={s with heap:=h2,toks:=s.toks+1}) n2 λh' hn2 hs2=>?_
 obtain⟨oD,esD,epD,hoD,hdD,hcD⟩:=hn2.count (PySem.Within.cons name v PySem.Within.nil)
 refine wpAny_bind (wpAny_lookBehind hoD (by rw[hdD];exact pastItsLine_dict (Nat.le_trans hcD (by show 1<=sizeLine+1;decide))) ?_)
 refine wpAny_pure (h h' (s.toks+1+1) ((hs2.2 x hne).trans e2) hn2 λb o hb e=>?_)
 exact(hs2.2 b (Nat.ne_of_lt (Heap.lt_size e))).trans (k2 b o hb (Heap.get?_push_of_some _ e))
theorem VW {fill expr:Bool} {tk:Tok} {Q:Value->Shared->Prop} (X:K.In s.heap) (I:InstAt s.heap x ox C od) (c:ZW K C bm)
   (h:wpAny (model prog w) A.in1 (Builtin.«object.__getattribute__» ⟨[.ref x,.str name tk],[]⟩) (λfin s'=>match fin with | .done (.ret u)=>handedIn u=true/\Q u s' | _=>False) (λ_ _=>False) s):
   wpAny (model prog w) A (getAttrBy (.ref x) (.str name tk) fill expr) Q E s:=by
 have ga:=PySem.F.attr_ValueError.ga
 have L1:=looks_findIn (M:=model prog w) X c.ga
 have L2:=looks_findIn (M:=model prog w) X c.gt
 have hk:builtinKind "BaseException.__getattribute__"=some .slot:=by decide+kernel
 have hs:splitId "BaseException.__getattribute__"=some ("BaseException","__getattribute__"):=by decide+kernel
 have sub:Looks (model prog w) s.heap (isInstance (.ref x) (.type "BaseException")) true:=I.type.andThen (looks_mroIn X c.mb)
 unfold getAttrBy
 refine wpAny_holding (wpAny_bind (I.type.here (wpAny_bind (L1.here ?_))))
 dsimp only
 have eb:(Value.builtin "BaseException.__getattribute__"==Value.builtin "object.__getattribute__")=false:=by decide+kernel
 rw[if_neg (by rw[eb,Bool.and_false];decide)]
 unfold getAttrByItsOwn
 refine wpAny_bind (show wpAny _ _ (hookBefore (.ref C)) _ _ _ from L2.here ?_)
 refine wpAny_bind (wpAny_attempt (wpAny_holding ?_))
 unfold callGetattribute
 have e0:(expr&&onTheHeap (Value.builtin "BaseException.__getattribute__"))=false:=by cases expr<;>rfl
 rw[if_neg (by rw[e0];decide)]
 unfold boundAndCalled
 rw[ga.bind]
 refine wpAny_bind (wpAny_pure ?_)
 refine wpAny_call (codeAny_call_builtin ga.plain PySem.F.entry_bexc_ga
   (@check_slot (model prog w) _ _ s "BaseException.__getattribute__" "BaseException" "__getattribute__" (.ref x) [.str name tk] [] _ hk hs sub (PySem.F.args_bexc_ga _ _) ?_))
 refine wpAny_mono h (λfin s' z=>?_) λ_ _ z=>z.elim
 cases fin with
 | again c'=>exact z.elim
 | done f=>
   cases f with
   | next=>exact z.elim
   | brk=>exact z.elim
   | cont=>exact z.elim
   | ret u=>
     obtain⟨hh,q⟩:=z
     show wpAny _ _ (handedOut u) _ _ _
     rw[handedOut_of hh]
     exact wpAny_pure q
theorem xN {expr:Bool} {Q:Value->Shared->Prop} {odd:Obj} (X:K.In s.heap) (I:InstAt s.heap x ox C (some odd)) (c:ZW K C bm) (ha:findIn K (.ref C) name=some none) (hl:lookIn name odd=some (some v)) (hv:handedIn v=true)
   (h:Q v {s with toks:=s.toks+1}):wpAny (model prog w) A (getAttr (.ref x) name expr) Q E s:=by
 have hf:findObj K C (some odd) name=some (.value v):=findObj_own c.hd ha rfl hl
 have LF:=looks_find (M:=model prog w) X I hf
 unfold getAttr
 refine wpAny_bind (wpAny_mkText (VW (s:={s with toks:=s.toks+1}) X I c ?_))
 unfold Builtin.«object.__getattribute__»
 refine wpAny_bind (wpAny_pure (wpAny_bind (wpAny_pure (wpAny_bind (Looks.here (s:={s with toks:=s.toks+1}) I.type (wpAny_bind (Looks.here (s:={s with toks:=s.toks+1}) LF ?_)))))))
 exact wpAny_pure ⟨hv,h⟩
end
end L2
namespace L2
open PySem PySem.W PyProof.Rows Builtin Builtin.ObjectAttr
section
variable {K:Frag} {x C:Addr} {ox odd:Obj} {bm:List Value}
theorem kC (c:ZW K C bm) (hn:specialIn K (.builtin "object.__class__") "__get__"=some (some (.builtin "getset_descriptor.__get__"))) (htk:takesIn K (.builtin "object.__class__")=some true):
   KitX K (.ref x) (.ref C) (λh=>InstAt h x ox C (some odd)) where
 ty:=λ_ _ _ I=>I.type
 it:=λ_ _ X _=>by
   obtain⟨cd,hcd,_⟩:=any_some c.hd
   unfold clsIn at hcd
   split at hcd
   . rename_i _ _ _ _ ho
     intro A' Q' E' s' k q
     unfold isType loadHead
     exact wpAny_bind (wpAny_loadPart (k _ _ (X _ _ ho)) (wpAny_pure q))
   . cases hcd
 ne:=λh tp dd its n sl X htp=>by
   obtain⟨cd,hcd,_⟩:=any_some c.hd
   refine Bool.eq_false_iff.mpr λq=>?_
   have e:C=tp:=Value.ref.inj (beq_iff_eq.mp q)
   subst e
   unfold clsIn at hcd
   split at hcd
   . rename_i _ _ _ _ ho
     have z:=(X _ _ ho).symm.trans htp
     cases z
   . cases hcd
 ca:=λ{prog w A E Q s} X I k=>by
   have hf:findObj K C (some odd) "__class__"=some (.bind (.builtin "getset_descriptor.__get__") (.builtin "object.__class__")):=
     findObj_data (by obtain⟨cd,hc,_⟩:=any_some c.hd;rw[hc];rfl) c.cl hn htk
   have LF:=looks_find (M:=model prog w) X I hf
   unfold getAttr? getAttrBy?
   refine wpAny_bind (wpAny_mkText (wpAny_bind (wpAny_attempt (VW (s:={s with toks:=s.toks+1}) X I c ?_))))
   unfold Builtin.«object.__getattribute__»
   refine wpAny_bind (wpAny_pure (wpAny_bind (wpAny_pure (wpAny_bind (Looks.here (s:={s with toks:=s.toks+1}) I.type (wpAny_bind (Looks.here (s:={s with toks:=s.toks+1}) LF ?_)))))))
   dsimp only
   unfold bindTo
   dsimp only
   refine wpAny_bind (wpAny_holding (wpAny_call (class_get (s:={s with toks:=s.toks+1}) X I c.mo ?_)))
   exact wpAny_pure ⟨rfl,wpAny_pure k⟩
end
end L2
set_option Elab.async false
set_option linter.all false
set_option maxRecDepth 100000
set_option maxHeartbeats 4000000
namespace L2
open PySem PySem.Spec PyProof.Rows
def ZF (e C:Addr):HO:=.ext λh=>∃fl,h.get? e=some {cls:=.ref C,data:=.fields fl}/\fl[1]?=some Value.none
def jT (e C dx:Addr) (hd:Value):HO:=.ext λh=>∃fl,h.get? e=some {cls:=.ref C,dict:=some dx,data:=.fields fl}/\fl[1]?=some hd
abbrev QN (e C dx:Addr):HO:=jT e C dx .none
def j7:List Value:=[.type "ValueError",.type "Exception",.type "BaseException",.type "object"]
structure Gw (K:PySem.W.Frag) (C f:Addr) (bm:List Value):Prop where
 obj:∃nm q N bs hdct sn sub ab col dd k0 k1 k2 k3 k5,K.lookup C=some (excClassObj nm q C N bs bm hdct sn sub ab col dd k0 k1 k2 k3 k5 "ValueError.__new__")
 tail:∀h:Heap,K.In h->OwnTail h j7 bm
 init:PySem.W.findIn K (.ref C) "__init__"=some (some (.ref f))
 fn:PySem.W.isFn K (.ref f)=true
 kp:PySem.W.keepIn K (.ref C)=true
section
variable {P:Program} {w:World} {H:Hp} {h h':Heap} {e C dx:Addr}
theorem xR (he:∃fl,h.get? e=some {cls:=.ref C,data:=.fields fl}/\fl[1]?=some Value.none):qB P w H h e (ZF e C):=by
 obtain⟨fl,q,z⟩:=he
 exact⟨⟨fl,q,z⟩,⟨_,q⟩,λh1 h2 ⟨fl',q',z'⟩ k=>⟨fl',k _ q',z'⟩⟩
theorem Jt {hd:Value} (he:∃fl,h.get? e=some {cls:=.ref C,dict:=some dx,data:=.fields fl}/\fl[1]?=some hd):qB P w H h e (jT e C dx hd):=by
 obtain⟨fl,q,z⟩:=he
 exact⟨⟨fl,q,z⟩,⟨_,q⟩,λh1 h2 ⟨fl',q',z'⟩ k=>⟨fl',k _ q',z'⟩⟩
end
section
variable {X:Cx} {pins:List (Addr×Obj)} {σ:St} {H:Hp} {s:Shared} {e C dx:Addr} {f:Str} {bm:List Value} {y v:V} {u:Value} {A:Around} {E:Value->Shared->Prop}
theorem qr.excSet {h':Heap} {t':Nat} {fs:List (Str×V)} (I:qr X pins σ H s) (hH:H e=some (ZF e C)) (hd:s.heap.objs.size<=dx)
   (h1:∃fl,h'.get? e=some {cls:=.ref C,dict:=some dx,data:=.fields fl}/\fl[1]?=some Value.none) (h2:∃mA,h'.Ns1 dx mA/\∀f,Q6 (fs.lookup f) (mA f))
   (k:∀b o,b≠e->s.heap.get? b=some o->h'.get? b=some o):qr X pins σ (upd (upd H e (QN e C dx)) dx (.xd fs)) {s with heap:=h',toks:=t'}:=by
 have mu:u8 (H e):=by rw[hH];exact trivial
 have heo:∃u,h'.get? e=some u:=let ⟨_,q,_⟩:=h1;⟨_,q⟩
 have hn:H dx=none:=I.hok.fresh hd
 have ne:dx≠e:=λz=>by rw[z,hH]at hn;cases hn
 have U:Un X.fs [] H (upd H e (QN e C dx)) s.heap h':=Un.write mu (.inl rfl) k heo
 have W:Q1 X.prog X.w (upd H e (QN e C dx)) h':=I.hok.write mu (.inl rfl) k heo (Jt h1)
 have hn2:(upd H e (QN e C dx)) dx=none:=by rw[qg ne];exact hn
 have nb:∀b o,s.heap.get? b=some o->b≠dx:=λb o q=>Nat.ne_of_lt (Nat.lt_of_lt_of_le (Heap.lt_size q) hd)
 refine I.un ⟨U.keep,U.slot,λb o q n hx=>?_,U.there,λb xs q=>?_,λb o z q=>?_,λb ps q=>?_⟩ λb o q=>?_
 . rw[qg (nb b o q)];exact U.free b o q n hx
 . have:=U.tups b xs q
   rw[qg (qm this hn2)];exact this
 . have:=U.frzs b o z q
   rw[qg (qm this hn2)];exact this
 . obtain⟨m,q'⟩:=U.tbls b ps q
   exact⟨m,by rw[qg (qm q' hn2)];exact q'⟩
 . by_cases hb:b=dx
   . subst hb
     rw[qd]at q
     cases q
     exact h2
   . rw[qg hb]at q
     exact(W b o q).stay (λ_ _ _ z=>z) (λc z=>by rw[qg (qm z hn2)];exact z) (λc xs z=>by rw[qg (qm z hn2)];exact z) (λc o z=>by rw[qg (qm z hn2)];exact z)
theorem Ug {Q:Unit->Shared->Prop} (I:qr X pins σ H s) (hH:H e=some (ZF e C)) (c:ZW X.K C bm) (hb:WK bm) (n:j9 X.K C f) (ry:qJ y u)
   (h:∀dx s',H dx=none->qr X pins σ (upd (upd H e (QN e C dx)) dx (.xd [(f,y)])) s'->Q () s'):wpAny (model X.prog X.w) A (setAttr (.ref e) f u) Q E s:=by
 obtain⟨⟨fl,he,hz⟩,_,_⟩:=(show qB X.prog X.w H s.heap e (ZF e C) from I.hok e _ hH)
 refine vB I.kIn he rfl rfl ⟨fl,rfl⟩ c hb n λh' tk e1 e2 e3=>?_
 refine h s.heap.objs.size _ (I.hok.fresh (Nat.le_refl _)) (I.excSet hH (Nat.le_refl _) ⟨fl,e1,hz⟩ ⟨_,e2,λg=>?_⟩ e3)
 by_cases hg:g=f
 . subst hg
   rw[List.lookup_cons]
   simp only[beq_self_eq_true,if_true]
   exact ry
 . have hb':(g==f)=false:=beq_eq_false_iff_ne.mpr hg
   rw[List.lookup_cons]
   simp only[hb',hg,if_false]
   exact trivial
theorem UT {b:Bool} {Q:Value->Shared->Prop} {fs:List (Str×V)} {hd:Value} (I:qr X pins σ H s) (hH:H e=some (jT e C dx hd)) (hx:H dx=some (.xd fs)) (c:ZW X.K C bm) (n:j9 X.K C f) (l:fs.lookup f=some v)
   (h:∀u s',qr X pins σ H s'->qJ v u->Q u s'):wpAny (model X.prog X.w) A (getAttr (.ref e) f b) Q E s:=by
 obtain⟨⟨fl,he,_⟩,_,_⟩:=(show qB X.prog X.w H s.heap e (jT e C dx hd) from I.hok e _ hH)
 obtain⟨mA,hn,hr⟩:=(show qB X.prog X.w H s.heap dx (.xd fs) from I.hok dx _ hx)
 obtain⟨od,ho,hl⟩:=Zy hn
 have r:=hr f
 rw[l]at r
 obtain⟨u,eu,ru⟩:=Q6.some_of r
 exact xN I.kIn ⟨he,rfl,rfl,ho⟩ c n (by rw[hl,eu]) (YG ru) (h u _ (I.tok _) ru)
theorem kQ {cV:Value} {b:Bool} {Q:Value->Shared->Prop} {fs:List (Str×V)} {hd:Value} (I:qr X pins σ H s) (hH:H e=some (jT e C dx hd)) (hx:H dx=some (.xd fs)) (c:ZW X.K C bm)
   (hn:PySem.W.specialIn X.K (.builtin "object.__class__") "__get__"=some (some (.builtin "getset_descriptor.__get__"))) (htk:PySem.W.takesIn X.K (.builtin "object.__class__")=some true)
   (ek:PySem.W.kitOne X.K (.ref C) cV=some b) (h:∀tk,Q (.bool b) {s with toks:=tk}):wpAny (model X.prog X.w) A (call (.builtin "isinstance") [.ref e,cV]) Q E s:=by
 obtain⟨⟨fl,he,_⟩,_,_⟩:=(show qB X.prog X.w H s.heap e (jT e C dx hd) from I.hok e _ hH)
 obtain⟨mA,hns,hr⟩:=(show qB X.prog X.w H s.heap dx (.xd fs) from I.hok dx _ hx)
 obtain⟨od,ho,hl⟩:=Zy hns
 exact PySem.W.kia_one (kC (ox:={cls:=.ref C,dict:=some dx,data:=.fields fl}) (odd:=od) c hn htk) I.kIn ⟨he,rfl,rfl,ho⟩ ek (λz=>nomatch z) h
end
end L2
namespace L2
open PySem PySem.Spec PyProof.Rows
def Ro (K:PySem.W.Frag) (bm:List Value) (ta tv:TE) (f:Str):TS:=λD σ H=>tv σ H λy H1=>ta σ H1 λx H2=>∃a C,x=.ref a/\H2 a=some (ZF a C)/\ZW K C bm/\WK bm/\j9 K C f/\
 ∀dx,H2 dx=none->D.nx σ (upd (upd H2 a (QN a C dx)) dx (.xd [(f,y)]))
section
variable {X:Cx} {CX:ZI} {k:Nat} {C fI:Addr} {fd:FuncData} {ps:List Str} {sp:Sp} {E:XK} {x f:Str} {o e value:Expr} {es:List Expr} {p pos pos':Pos} {ta tv:TE} {t:TA} {bm:List Value}
theorem uC (ha:JE X o ta) (hv:JE X value tv) (hs:swapsWith value (some (.Attribute o f pos')) pos.line X.env=pure false):JS X (.Assign [.Attribute o f pos'] value pos) (Ro X.K bm ta tv f):=.of (by
 have ha:=ha.to
 have hv:=hv.to
 intro pins s σ H D I h
 refine plainObj_wpAny_Assign_Attribute (je (hv pins s σ H _ I h) λu s1 ⟨y,H1,I1,ry,q⟩=>
   je (ha pins s1 σ H1 _ I1 q) λov s2 ⟨x,H2,I2,rx,a,C,ex,ea,c,hb,n,q2⟩=>?_) hs
 subst ex
 obtain rfl:ov=Value.ref a:=rx
 exact Ug I2 ea c hb n ry λdx s3 hdx I3=>⟨σ,_,I3,q2 dx hdx⟩)
theorem Uk {pins:List (Addr×Obj)} {σ:St} {H:Hp} {s:Shared} {Q:VK} {us:List Value} {vs:List V} (M:Gw X.K C fI bm) (F:qp X.prog X.w X.K X.mg X.base CX k fI fd ps sp) (hr:qY (k+1) X.A) (hb:jE X.K fd ps [])
   (hx:jx CX X E) (I:qr X pins σ H s) (r:qC vs us) (hz:us.length<=sizeLine)
   (h:∀x,H x=none->sp (.ref x::vs) (upd H x (ZF x C)) (λv H2=>v=.non/\Q (.ref x) H2) E):
   wpAny (model X.prog X.w) X.A (call (.ref C) us) (EP X pins σ Q) X.xe s:=by
 obtain⟨nm,q,N,bs,hdct,sn,sub,ab,col,dd,k0,k1,k2,k3,k5,hC⟩:=M.obj
 have hfn:PySem.W.typeIn X.K (.ref fI)=some (.type "function"):=beq_iff_eq.mp M.fn
 obtain⟨oI,ho,hoc⟩:=Option.map_eq_some_iff.mp hfn
 have KX:=I.kIn
 obtain⟨hp,g,d,tk,os⟩:=s
 refine U4 PySem.F.excBase_ValueError (by decide+kernel) PySem.F.excBase_ValueError (M.tail _ KX) (KX _ _ hC) (PySem.W.looks_findIn KX M.init) (KX _ _ ho) hoc (λh' ex hle hm=>?_) hz
 obtain⟨t0,ht,_,_⟩:=hm.there
 have I2:qr X pins σ (upd H ex (ZF ex C)) ⟨h',g,d,tk,os⟩:=I.laid (t':=tk) hm.keeps hle (xR ⟨_,ht,rfl⟩)
 have hq:=h ex (I.hok.fresh hle)
 have r2:qC (V.ref ex::vs) (Value.ref ex::us):=.cons rfl r
 have hl:(Value.ref ex::us++[]).length=ps.length:=by
   have e:=r2.length
   rw[F.len _ _ _ _ hq]at e
   rw[List.append_nil]
   exact e.symm
 have bb:=hb ⟨h',g,d,tk,os⟩ (Value.ref ex::us) I2.kIn hl
 rw[List.append_nil]at bb
 refine wpAny_call (codeAny_mono (F.run _ X.stack _ _ ⟨Value.ref ex::us,[]⟩ (Value.ref ex::us) _ _ E (hr.make C us []) (I2.env0.make C us []) bb r2 hq) λr s' hq'=>?_)
 cases r with
 | error z=>exact hx pins σ _ _ z s' I2 hq'
 | ok fl=>
   cases fl with
   | ret u=>
     obtain⟨v,H',I3,rv,ev,q3⟩:=I2.after hq'
     subst ev
     exact⟨rv,⟨V.ref ex,H',I3,rfl,q3⟩⟩
   | next=>exact False.elim hq'
   | brk=>exact False.elim hq'
   | cont=>exact False.elim hq'
theorem kL (M:Gw X.K C fI bm) (F:qp X.prog X.w X.K X.mg X.base CX k fI fd ps sp) (hr:qY (k+1) X.A) (hg:Gl X x) (hm:X.mg x=some (.ref C)) (hb:jE X.K fd ps []) (hx:jx CX X E) (ha:JA X (e::es) t) (hz:(e::es).length<=1000:=by decide) (hv:∀vs us,qC vs us->vs.length<=sizeLine->us.length<=sizeLine:=by intro vs us r h;rw[<-r.length];exact h) (hdb:(x==("__debug__":Str))=false:=by decide) (he:starEach (e::es) X.env=(false,eval e X.env)::starEach es X.env:=by rfl) (hpl:(backTo pos (starEach es X.env)).any (·.1)=false:=by rfl):JE X (.Call (.Name x p) (e::es) [] pos) (λσ H Q=>t σ H λvs H1=>vs.length<=sizeLine/\∀x,H1 x=none->sp (.ref x::vs) (upd H1 x (ZF x C)) (λv H2=>v=.non/\Q (.ref x) H2) E):=.of (by
 have ha:=ha.to
 intro pins s σ H Q I h
 refine wpAny_Call_Name_kw (Jq I hg hm ?_ hdb)
 refine PySem.W.callWith_K (h₀:=X.base) I.ok.mod.kin M.kp (je (ha pos pins s σ H _ I h) λus s1 ⟨vs,H1,I1,r,q⟩=>⟨I1.kIn,?_⟩) he hpl
 exact Uk M F hr hb hx I1 r (hv vs us r q.1) q.2)
end
end L2
set_option Elab.async false
set_option linter.all false
set_option maxRecDepth 100000
set_option maxHeartbeats 4000000
namespace L2
open PySem PySem.Spec PyProof.Rows
def neL (xs ys:List V):Bool:=if xs.length=ys.length then !((List.range xs.length).all λj=>xT (xs.getD j .non) (ys.getD j .non)) else true
mutual
inductive DV (K:PySem.W.Frag) (H:Hp):V->PyData->Prop
 | non:DV K H .non .none
 | bl (b:Bool):DV K H (.bl b) (.bool b)
 | int (i:Int):DV K H (.int i) (.int i)
 | str (x:Str):DV K H (.str x) (.str x)
 | lst {a:Addr} {xs:List V} {ds:List PyData}:SqL K H a xs->DVs K H xs ds->DV K H (.ref a) (.list ds)
 | tup {a:Addr} {xs:List V} {ds:List PyData}:SqT K H a xs->DVs K H xs ds->DV K H (.ref a) (.tuple ds)
inductive DVs (K:PySem.W.Frag) (H:Hp):List V->List PyData->Prop
 | nil:DVs K H [] []
 | cons {x:V} {xs:List V} {d:PyData} {ds:List PyData}:DV K H x d->DVs K H xs ds->DVs K H (x::xs) (d::ds)
end
section
variable {X:Cx} {pins:List (Addr×Obj)} {σ:St} {H:Hp} {s:Shared}
mutual
theorem DV.reads (I:qr X pins σ H s):∀{x:V} {d:PyData},DV X.K H x d->∀{u:Value},qJ x u->∃as,Reads s.heap u d as
 | _,_,.non,u,r=>by cases (show u=Value.none from r);exact⟨_,.none⟩
 | _,_,.bl b,u,r=>by cases (show u=Value.bool b from r);exact⟨_,.bool b⟩
 | _,_,.int i,u,r=>by obtain⟨t,q⟩:=(show ∃t,u=Value.int i t from r);subst q;exact⟨_,.int i t⟩
 | _,_,.str x,u,r=>by obtain⟨t,q⟩:=(show ∃t,u=Value.str x t from r);subst q;exact⟨_,.str x t⟩
 | _,_,.lst (a:=a) hq hs,u,r=>by
   cases (show u=Value.ref a from r)
   obtain⟨its,rv,⟨o,n,e,hc,hd,hda⟩,hz⟩:=I.list hq
   obtain⟨as,ra⟩:=DVs.reads I hs rv
   exact⟨_,.list e hc hda (by simpa using ra)⟩
 | _,_,.tup (a:=a) hq hs,u,r=>by
   cases (show u=Value.ref a from r)
   obtain⟨its,rv,⟨o,e,hc,n,hda⟩,hz⟩:=I.tuple hq
   obtain⟨as,ra⟩:=DVs.reads I hs rv
   exact⟨_,.tuple e hc hda (by simpa using ra)⟩
theorem DVs.reads (I:qr X pins σ H s):∀{xs:List V} {ds:List PyData},DVs X.K H xs ds->∀{us:List Value},qC xs us->∃as,ReadsAll s.heap us ds as
 | _,_,.nil,_,.nil=>⟨_,.nil⟩
 | _,_,.cons h hs,_,.cons r rs=>by
   obtain⟨as,a⟩:=DV.reads I h r
   obtain⟨bs,b⟩:=DVs.reads I hs rs
   exact⟨_,.cons a b⟩
end
end
def KE (K:PySem.W.Frag):List V->Hp->VK->Prop:=λxs H Q=>∃a d,xs=[.ref a]/\DV K H (.ref a) d/\d.showable=true/\d.hasDict=false/\d.depth<=60/\d.shown.length<=sizeLine/\Q (.str d.shown) H
theorem YJ {X:Cx} (hg:X.A.guards=some []) (hu:X.A.units+64 < cLine):j8 X (.builtin "repr") (KE X.K):=by
 intro pins s σ H xs us Q I r h
 obtain⟨a,d,rfl,hd,h1,h2,h3,h4,q⟩:=h
 obtain⟨u,rfl,ru⟩:=Qu r
 cases ru
 obtain⟨as,ra⟩:=hd.reads I (u:=.ref a) rfl
 exact repr_of_reads' ra h1 (λz=>by rw[h2]at z;cases z) hg (by omega) (λ_ _ e=>e) (λh' t tk k=>⟨.str d.shown,H,I.kept (t':=tk) k,⟨t,rfl⟩,q⟩) h4
end L2
namespace L2
open PySem PySem.Spec PyProof.Rows
end L2
set_option Elab.async false
set_option linter.all false
set_option maxRecDepth 100000
set_option maxHeartbeats 4000000
namespace L2
open PySem PySem.Spec PyProof.Rows
section
variable {X:Cx}
def KI (K:PySem.W.Frag) (k:Bool):R2:=λx y H Q=>∃d,DV K H x d/\DV K H y d/\PySem.SeqAt.shaped d=true/\Q (.bl k) H
theorem zR {d:PyData} (h:PySem.SeqAt.shaped d=true):PyData.eqv d d=true:=PySem.SeqAt.eqv_refl d (PySem.SeqAt.canLay_of_shaped h)
theorem ud (hu:X.A.units+64 < cLine):ZH X (compareOp .Eq) (KI X.K true):=by
 intro pins s σ H x y v u Q I rx ry h
 obtain⟨d,h1,h2,hs,q⟩:=h
 obtain⟨as,ra⟩:=h1.reads I rx
 obtain⟨bs,rb⟩:=h2.reads I ry
 refine eq_dataH ra rb hs hs hu ?_
 rw[zR hs]
 exact⟨.bl true,H,I,rfl,q⟩
theorem ub (hu:X.A.units+64 < cLine):ZH X (compareOp .NotEq) (KI X.K false):=by
 intro pins s σ H x y v u Q I rx ry h
 obtain⟨d,h1,h2,hs,q⟩:=h
 obtain⟨as,ra⟩:=h1.reads I rx
 obtain⟨bs,rb⟩:=h2.reads I ry
 refine ne_dataH ra rb hs hs hu ?_
 rw[zR hs]
 exact⟨.bl false,H,I,rfl,q⟩
def GB (i j:Int):Prop:=0 < j/\j.natAbs < 2^200
theorem vY:ZH X (binaryOp .FloorDiv) (rI GB λi j=>.int (i / j)):=KN λi j _ _ _ _ _ hc q=>by
 have h1:(0:Int) < j:=hc.1
 have h3:j.natAbs.log2 < 200:=(Nat.log2_lt (by omega)).mpr hc.2
 exact floordiv_int (by omega) (by rw[Int.fdiv_eq_ediv_of_nonneg i (by omega)];exact q) (.inl (PyProof.noPylong_of_log2 (Nat.lt_trans h3 (by decide))))
end
section
variable {X:Cx} {tg:Expr}
end
section
variable {X:Cx} {st:Stmt} {rest:List Stmt} {t u:TS}
def G0 (t u:TS):TS:=λD σ H=>∃W:St->Hp->Prop,t {D with nx:=W} σ H/\∀σ' H',W σ' H'->u D σ' H'
theorem Xd (h1:JS X st t) (h2:z0 X rest u):z0 X (st::rest) (G0 t u):=.of (by
 have h1:=h1.to
 have h2:=h2.to
 intro pins s σ H D I ⟨W,h,k⟩
 refine wpAny_execs_cons (je (h1 pins s σ H {D with nx:=W} I h) λf s1 q=>?_)
 cases f with
 | next=>
   obtain⟨σ',H',I',q⟩:=q
   exact h2 pins s1 σ' H' D I' (k σ' H' q)
 | ret v=>exact q
 | brk=>exact q
 | cont=>exact q)
end
end L2
set_option Elab.async false
set_option linter.all false
set_option maxRecDepth 100000
set_option maxHeartbeats 4000000
namespace PySem
section
variable {prog:Program} {w:World} {A:Around} {E:Value->Shared->Prop} {s:Shared}
def zr (x n c:Int):Obj:={cls:=.type "range_iterator",data:=.fields #[rawInt x,rawInt n,rawInt c]}
theorem Vz (n:Nat):Builtin.Range.rangeSize 0 n 1=n:=by
 unfold Builtin.Range.rangeSize
 rw[if_pos (by decide)]
 split<;>omega
theorem zV {r:Addr} {a b c:Int} {t u v:Tok} {Q:Value->Shared->Prop} (hr:IsRange s.heap r a b c t u v)
   (hs:(Builtin.Range.rangeFitsLong a&&Builtin.Range.rangeFitsLong b&&Builtin.Range.rangeFitsLong c&&Builtin.Range.rangeFitsLong (-c)&&Builtin.Range.rangeFitsLong (a - c)&&Builtin.Range.rangeFitsLong (Builtin.Range.rangeSize a b c))=true)
   (h:Q (.ref s.heap.objs.size) {s with heap:=s.heap.push (zr (a+(Builtin.Range.rangeSize a b c - 1)*c) (Builtin.Range.rangeSize a b c) (-c))}):wpAny (model prog w) A (call (.builtin "range.__reversed__") [.ref r]) Q E s:=by
 have ty:s.TypeIs (.ref r) "range":=⟨_,hr,rfl⟩
 refine wpAny_call_entry F.slot_range_reversed ty F.entry_range_reversed ?_ (F.args_range_reversed_1 _)
 unfold Builtin.«range.__reversed__»
 refine wpAny_bind (wpAny_of_eq (a:=Value.ref r) rfl ?_)
 refine wpAny_bind ?_
 unfold Builtin.Range.rangeFields
 refine wpAny_bind (wpAny_field hr rfl (x:=.int a t) rfl ?_)
 refine wpAny_bind (m:=asInt? (.int a t)) (wpAny_pure ?_)
 refine wpAny_bind (wpAny_field hr rfl (x:=.int b u) rfl ?_)
 refine wpAny_bind (m:=asInt? (.int b u)) (wpAny_pure ?_)
 refine wpAny_bind (wpAny_field hr rfl (x:=.int c v) rfl ?_)
 refine wpAny_bind (m:=asInt? (.int c v)) (wpAny_pure ?_)
 refine wpAny_pure ?_
 dsimp only
 rw[hs]
 simp only[Bool.not_true,Bool.false_eq_true,if_false,if_true]
 first
 | refine wpAny_bind (wpAny_newObj_type (wpAny_pure ⟨_,rfl,h⟩))
 | refine wpAny_bind (wpAny_pure (wpAny_bind (wpAny_newObj_type (wpAny_pure ⟨_,rfl,h⟩))))
theorem Jz {r:Addr} {n:Nat} {t u v:Tok} {Q:Value->Shared->Prop} (hr:IsRange s.heap r 0 n 1 t u v) (hn:n < 1048576)
   (h:Q (.ref s.heap.objs.size) {s with heap:=s.heap.push (zr ((n:Int) - 1) n (-1))}):wpAny (model prog w) A (call (.builtin "range.__reversed__") [.ref r]) Q E s:=by
 have f:∀x:Int,-2000000<=x->x<=2000000->Builtin.Range.rangeFitsLong x=true:=λx p q=>by
   unfold Builtin.Range.rangeFitsLong
   simp
   omega
 have e:=Vz n
 have hs:(Builtin.Range.rangeFitsLong 0&&Builtin.Range.rangeFitsLong (n:Int)&&Builtin.Range.rangeFitsLong 1&&Builtin.Range.rangeFitsLong (-1)&&Builtin.Range.rangeFitsLong (0 - 1)&&Builtin.Range.rangeFitsLong (Builtin.Range.rangeSize 0 n 1))=true:=by
   rw[e,f 0 (by omega) (by omega),f n (by omega) (by omega),f 1 (by omega) (by omega),f (-1) (by omega) (by omega),f (0 - 1) (by omega) (by omega)]
   rfl
 refine zV hr hs ?_
 have e2:(0:Int)+(Builtin.Range.rangeSize 0 n 1 - 1)*1=(n:Int) - 1:=by rw[e];omega
 rw[e2,e]
 exact h
end
end PySem
namespace PySem
section
variable {prog:Program} {w:World} {A:Around} {E:Value->Shared->Prop} {s:Shared}
theorem JX {r:Addr} {n:Nat} {t u v:Tok} {Q₁:Value->Shared->Prop} (hr:IsRange s.heap r 0 n 1 t u v) (hn:n < 1048576)
   (h:Q₁ (.ref s.heap.objs.size) {s with heap:=s.heap.push (zr ((n:Int) - 1) n (-1))}):
   codeAny (model prog w) A (.call (.builtin "reversed.__new__") ⟨[.type "reversed",.ref r],[]⟩) (wants Q₁ E) s:=by
 have ty:s.TypeIs (.ref r) "range":=⟨_,hr,rfl⟩
 have nn:¬((Value.builtin "range.__reversed__"==Value.none)=true):=Bool.false_ne_true
 refine codeAny_of_tree (show wpAny _ A.in1 (checkBuiltinCall "reversed.__new__" ⟨[.type "reversed",.ref r],[]⟩ >>= λ_=>again (.builtin "reversed.__new__" ⟨[.type "reversed",.ref r],[]⟩)) _ _ s from
   wpAny_bind (wpAny_of_eq (F.newCall_reversed_1 (.ref r)) (wpAny_pure ⟨plainId_quiet F.plain_reversed_new _,codeAny_builtin F.entry_reversed_new ?_⟩)))
 rw[Around.under_plainId F.plain_reversed_new _];unfold Builtin.«reversed.__new__»
 refine wpAny_bind (wpAny_of_eq (newClass_reversed (.ref r)) ?_);dsimp only
 refine wpAny_bind (wpAny_of_eq (a:=()) (by kernel_rfl) (wpAny_bind (wpAny_of_eq (a:=()) (by kernel_rfl) ?_)));try dsimp only
 refine wpAny_bind (wpAny_specialOf ty F.slot_range_reversed.lookup ?_);dsimp only
 refine wpAny_bind (wpAny_of_eq (F.slot_range_reversed.bind _) ?_);dsimp only
 rw[if_neg nn]
 refine wpAny_bind (wpAny_rule (wpAny_bind (m:=runValue (.call (.builtin "range.__reversed__") ⟨[.ref r],[]⟩)) (show wpAny _ _ (call (.builtin "range.__reversed__") [.ref r]) _ _ _ from Jz hr hn ?_)))
 first | exact wpAny_pure h | exact wpAny_bind (wpAny_pure (wpAny_pure h))
theorem ZR:isSubtype (.type "range_iterator") (.type "reversed")=pure false:=by rw[isSubtype_type];kernel_rfl
theorem Jy {r:Addr} {n:Nat} {t u v:Tok} {Q:Value->Shared->Prop} (hr:IsRange s.heap r 0 n 1 t u v) (hn:n < 1048576)
   (h:Q (.ref s.heap.objs.size) {s with heap:=s.heap.push (zr ((n:Int) - 1) n (-1))}):wpAny (model prog w) A (call (.type "reversed") [.ref r]) Q E s:=by
 refine callType_other (U:="range_iterator") (Q₁:=λobj s₁=>obj=.ref s.heap.objs.size/\s₁={s with heap:=s.heap.push (zr ((n:Int) - 1) n (-1))}) (by decide+kernel) F.create_reversed ⟨_,_,F.mro_reversed⟩ F.made_reversed ZR (F.typeCall_reversed_1 _) (JX hr hn ⟨rfl,rfl⟩) ?_
 rintro obj s₁ ⟨rfl,rfl⟩
 exact⟨⟨_,Heap.get?_push_size _ rfl,rfl⟩,h⟩
theorem Xr {I:Addr} {x left c:Int} {Q:Value->Shared->Prop} (hit:IsRangeIter s.heap I x left c) (h:Q (.int left s.toks) {s with toks:=s.toks+1}):
   wpAny (model prog w) A (call (.builtin "range_iterator.__length_hint__") [.ref I]) Q E s:=by
 have hT:s.TypeIs (.ref I) "range_iterator":=⟨_,hit,rfl⟩
 refine wpAny_call_entry F.slot_range_iterator_length_hint hT F.entry_range_iterator_length_hint ?_ (F.args_range_iterator_length_hint_1 _)
 unfold Builtin.«range_iterator.__length_hint__»
 refine wpAny_bind (wpAny_of_eq (a:=Value.ref I) rfl ?_)
 refine wpAny_bind (wpAny_field hit rfl (x:=rawInt left) rfl ?_)
 show wpAny _ _ (do ret (<-mkInt left)) _ _ _
 exact wpAny_ret_mkInt h
structure W6 (P:Program) (w:World) (T:String) (I:Addr) (fp:List Addr) (n:Nat) (V:Nat->Value->Prop) (St:Nat->Heap->Prop):Prop where
 ty:∀z:Shared,St 0 z.heap->z.TypeIs (.ref I) T
 nl:(Value.type T==Value.type "list")=false
 nt:(Value.type T==Value.type "tuple")=false
 walk:∀B:Around,B.handled=none->Walks P w B I fp [I] n V St
 hint:∀(B:Around) (F:Value->Shared->Prop) (z:Shared) (R:Bool->Shared->Prop),St 0 z.heap->(∀k,R false {z with toks:=k})->wpAny (model P w) B (Builtin.List.listLengthHint (.ref I)) R F z
theorem W6.list {P:Program} {T:String} {I:Addr} {fp:List Addr} {n:Nat} {V:Nat->Value->Prop} {St:Nat->Heap->Prop} (J:W6 P w T I fp n V St) {B:Around} {F':Value->Shared->Prop} {z:Shared} {R:Value->Shared->Prop}
   (hB:B.handled=none) (st:St 0 z.heap) (mem:I∈fp) (old:∀b∈fp,b < z.heap.objs.size) (hn:n<=1048576)
   (k:∀g tk xs c,(∀b o,b≠I->z.heap.get? b=some o->g.get? b=some o)->g.get? z.heap.objs.size=some (⟨.type "list",none,.seq xs c,#[]⟩:Obj)->ItemsOf V xs n->R (.ref z.heap.objs.size) {z with heap:=g,toks:=tk}):
   wpAny (model P w) B (call (.type "list") [.ref I]) R F' z:=by
 have nI:∀b∈fp,z.heap.objs.size≠b:=λb hb=>Nat.ne_of_gt (old b hb)
 have sI:Builtin.List.listSameRef (.ref z.heap.objs.size) (.ref I)=false:=by unfold Builtin.List.listSameRef;simp [nI I mem]
 refine callType_codes (Q₁:=λob z1=>z1={z with heap:=z.heap.push {cls:=.type "list",data:=.seq #[]}}/\ob=.ref z.heap.objs.size) F.called_list (F.typeCall_list_1 _) F.entry_list_init (code_list_new _ ⟨rfl,rfl⟩) ?_
 rintro ob z1 ⟨rfl,rfl⟩
 have a0:=Heap.get?_push_size z.heap (o:=({cls:=.type "list",data:=.seq #[]}:Obj)) rfl
 refine⟨⟨_,a0,rfl⟩,F.args_list_init_2 _ _,?_⟩
 show wpAny _ _ (Builtin.List.listItems (.ref _) >>= λys=>Builtin.List.listUpdate (.ref _) (λ_=>#[]) >>= λ_=>letGo ys.toList.reverse >>= λ_=>Builtin.List.listExtendWith (.ref _) (.ref I) .none) _ _ _
 refine wpAny_bind (show wpAny _ _ (Builtin.List.listItems (.ref _)) _ _ _ from ?_)
 unfold Builtin.List.listItems
 refine wpAny_bind (wpAny_seqItems a0 rfl (wpAny_pure (wpAny_bind ?_)))
 refine wpAny_updateSeq a0 rfl (wpAny_bind (wpAny_letGo ?_))
 have a1:=Heap.get?_update_self (Obj.mapSeq (λ_=>(#[]:Array Value))) a0 rfl
 have keep1:∀b o,z.heap.get? b=some o->((z.heap.push {cls:=.type "list",data:=.seq #[]}).update z.heap.objs.size (Obj.mapSeq (λ_=>(#[]:Array Value)))).get? b=some o:=λb o e=>
   (Heap.get?_update_other _ _ (Nat.ne_of_gt (Heap.lt_size e))).trans (Heap.get?_push_of_some _ e)
 generalize hg1:(z.heap.push {cls:=.type "list",data:=.seq #[]}).update z.heap.objs.size (Obj.mapSeq (λ_=>(#[]:Array Value)))=g1 at a1 keep1
 have st1:St 0 g1:=(J.walk B hB).frame 0 _ _ st λb _ o e=>keep1 b o e
 unfold Builtin.List.listExtendWith
 refine wpAny_bind (wpAny_typeOf (J.ty {z with heap:=g1} st1) ?_)
 simp only[sI,J.nl,J.nt,Bool.or_false,Bool.false_eq_true,if_false]
 refine wpAny_bind ((J.walk B.in1.in1 hB).self 0 {z with heap:=g1} _ _ st1 ?_)
 refine wpAny_bind (wpAny_holding (J.hint B.in1.in1 _ {z with heap:=g1} _ st1 λtk=>?_))
 have run:∀(g:Heap) (c tk:Nat),St 0 g->(∀b o,z.heap.get? b=some o->g.get? b=some o)->g.get? z.heap.objs.size=some {cls:=.type "list",data:=.seq #[] c}->
     codeAny (model P w) B.in1 (.builtin "list.extend.loop" ⟨[.ref z.heap.objs.size,.ref I,.none],[]⟩) (wants (λr z2=>r=.none/\R (.ref z.heap.objs.size) z2) F') {z with heap:=g,toks:=tk}:=λg c tk sg kg ag=>
   codeAny_extend_loopS (J.walk B.in1.in1 hB).toS (by rw[sizeLine_eq];omega) _ (λq=>nI _ q rfl) .none n 0 _ #[] c rfl (Nat.zero_le _) sg ag (ItemsOf.nil _) λz3 xs c3 mv a3 it=>by
     rw[Moved.eq_with mv]
     refine⟨rfl,k z3.heap z3.toks xs c3 (λb o hb e=>mv.heap b o (λq=>?_) (kg b o e)) a3 it⟩
     rcases List.mem_cons.mp q with q | q
     . exact absurd q (Nat.ne_of_lt (Heap.lt_size e))
     . exact hb (List.mem_singleton.mp q)
 refine wpAny_ite_split (λ_=>?_) (λ_=>wpAny_pure ⟨plainId_quiet F.plain_extend_loop _,run g1 _ tk st1 keep1 a1⟩)
 refine wpAny_bind (wpAny_rule (wpAny_bind (show wpAny _ _ (updateSeq z.heap.objs.size (·.push .none) >>= λ_=>updateSeq z.heap.objs.size (·.pop)) _ _ _ from wpAny_bind (wpAny_updateSeq a1 rfl ?_))))
 have a2:=Heap.get?_update_self (Obj.mapSeq (·.push Value.none)) a1 rfl
 refine wpAny_updateSeq (hz:=by seq_fits) a2 rfl ?_
 have keep3:∀b o,b≠z.heap.objs.size->g1.get? b=some o->((g1.update z.heap.objs.size (Obj.mapSeq (·.push Value.none))).update z.heap.objs.size (Obj.mapSeq (·.pop))).get? b=some o:=λb o hb e=>
   (Heap.get?_update_other _ _ (Ne.symm hb)).trans ((Heap.get?_update_other _ _ (Ne.symm hb)).trans e)
 exact wpAny_pure ⟨plainId_quiet F.plain_extend_loop _,run _ _ tk ((J.walk B hB).frame 0 _ _ st1 λb hb o e=>keep3 b o (λq=>nI b hb q.symm) e) (λb o e=>keep3 b o (Nat.ne_of_lt (Heap.lt_size e)) (keep1 b o e)) (Heap.get?_update_self (Obj.mapSeq (·.pop)) a2 rfl)⟩
theorem Uh {P:Program} {I:Addr} {x c:Int} {n:Nat} (hn:n<=1048576):W6 P w "range_iterator" I [I] n (λi v=>∃t,v=.int (x+i*c) t) (λi h=>IsRangeIter h I (x+(i:Nat)*c) ((n:Int) - (i:Nat)) c) where
 ty:=λ_ st=>⟨_,st,rfl⟩
 nl:=by decide
 nt:=by decide
 walk:=λ_ hB=>Walks.range hB I x c n
 hint:=λB G z R st k=>by
   have st':IsRangeIter z.heap I x n c:=by
     have e1:x+((0:Nat):Int)*c=x:=by simp
     have e2:(n:Int) - ((0:Nat):Int)=n:=by simp
     rw[<-e1,<-e2]
     exact st
   have ty:z.TypeIs (.ref I) "range_iterator":=⟨_,st',rfl⟩
   have few:Builtin.List.listTooLong ((n:Int).toNat)=false:=by unfold Builtin.List.listTooLong;rw[Int.toNat_natCast];exact decide_eq_false (by rw[sizeLine_eq];omega)
   unfold Builtin.List.listLengthHint
   refine wpAny_bind (wpAny_specialOf ty F.nolen_ra ?_)
   refine(show wpAny _ B (specialOf (.ref I) (Str.ofString "__length_hint__") >>= _) _ _ _ from wpAny_bind (wpAny_specialOf ty F.hint_ra ?_))
   (generalize hq:("range_iterator.__length_hint__":String)=q0;(fail_if_success (clear hq q0));wp_delta;rw[show splitId q0=some ("range_iterator","__length_hint__") from by subst hq;decide+kernel];subst hq)
   refine wpAny_bind (wpAny_isInstance (b:=true) ty (by rw[isSubtype_type];kernel_rfl) ?_)
   refine(show wpAny _ B (call (.builtin "range_iterator.__length_hint__") [.ref I] >>= _) _ _ _ from wpAny_bind (Xr st' (wpAny_bind (m:=asInt? (.int (n:Int) _)) (wpAny_pure ?_))))
   dsimp only
   rw[if_neg (by rw[few];decide)]
   exact wpAny_pure (k _)
end
end PySem
namespace L2
open PySem PySem.Spec PyProof.Rows
def Zn (n:Nat):List Nat:=(List.range n).reverse
theorem Ua {n:Nat} {acc:Array Value} (h:ItemsOf (λi v=>∃t,v=.int ((n:Int) - 1+i*(-1)) t) acc n):qC ((Zn n).map λi=>V.int (i:Nat)) acc.toList:=by
 obtain⟨hz,hv⟩:=h
 have key:∀(xs:List V) (us:List Value),xs.length=us.length->(∀(i:Nat) (x:V) (u:Value),xs[i]?=some x->us[i]?=some u->qJ x u)->qC xs us:=by
   intro xs
   induction xs with
   | nil=>intro us hl _;cases us with | nil=>exact .nil | cons _ _=>cases hl
   | cons x xs ih=>
     intro us hl hp
     cases us with
     | nil=>cases hl
     | cons u us=>exact .cons (hp 0 x u rfl rfl) (ih us (by simpa using hl) λi y w h1 h2=>hp (i+1) y w (by simpa using h1) (by simpa using h2))
 refine key _ _ (by simp [Zn,hz]) λi x u h1 h2=>?_
 have h2':acc[i]?=some u:=by simpa using h2
 obtain⟨t,rfl⟩:=hv i u h2'
 have hi:i < n:=by
   have:=(Array.getElem?_eq_some_iff.mp h2').1
   omega
 rw[List.getElem?_map,Zn,List.getElem?_reverse (by simpa using hi),List.length_range,List.getElem?_range (by omega)]at h1
 simp at h1
 subst h1
 refine⟨t,?_⟩
 congr 1
 omega
section
variable {X:Cx} {e:Expr} {te:TE} {p1 p2 p3 pos1 pos2 pos3:Pos}
theorem vn {M:Model} {A:Around} {E:Value->Shared->Prop} {s:Shared} {env:Env} {e:Expr} {pos:Pos} {R:List Value->Shared->Prop} (hs:starEach [e] env=[(false,eval e env)]) (h:wpAny M A (eval e env) (λv s1=>R [v] s1) E s):
   wpAny M A (spliced (backTo pos (starEach [e] env))) R E s:=by
 rw[hs]
 show wpAny _ _ (spliced ((false,eval e env)::backTo pos [])) _ _ s
 exact Calls.spliced_cons (je h λu s1 h1=>Calls.spliced_nil h1)
def G5 (te:TE):TE:=λσ H Q=>te σ H λx H1=>∃n:Nat,x=.int n/\n<=1000/\∀l,H1 l=none->Q (.ref l) (upd H1 l (.lst ((Zn n).map λi=>V.int (i:Nat))))
theorem uF (hc:X.calm=true) (g1:Gl X "list") (m1:X.mg "list"=none) (g2:Gl X "reversed") (m2:X.mg "reversed"=none) (g3:Gl X "range") (m3:X.mg "range"=none) (ha:JE X e te) (hs:starEach [e] X.env=[(false,eval e X.env)]:=by rfl) (hs2:starEach [.Call (.Name "range" p3) [e] [] pos3] X.env=[(false,eval (.Call (.Name "range" p3) [e] [] pos3) X.env)]:=by rfl) (hs3:starEach [.Call (.Name "reversed" p2) [.Call (.Name "range" p3) [e] [] pos3] [] pos2] X.env=[(false,eval (.Call (.Name "reversed" p2) [.Call (.Name "range" p3) [e] [] pos3] [] pos2) X.env)]:=by rfl):JE X (.Call (.Name "list" p1) [.Call (.Name "reversed" p2) [.Call (.Name "range" p3) [e] [] pos3] [] pos2] [] pos1) (G5 te):=.of (by
 have ha:=ha.to
 intro pins s σ H Q I h
 refine Call_ (Qz I g1 m1 boot_list (PyProof.Rows.callWith_type1 (vn hs3 ?_) (by rw[hs3];rfl) rfl))
 refine Call_ (Qz I g2 m2 boot_reversed (PyProof.Rows.callWith_type1 (vn hs2 ?_) (by rw[hs2];rfl) rfl))
 refine Call_ (Qz I g3 m3 boot_range (PyProof.Rows.callWith_type1 (vn hs (je (ha pins s σ H _ I h) λu s1 ⟨x,H1,I1,r1,q1⟩=>?_)) (by rw[hs];rfl) rfl))
 obtain⟨n,rfl,hn,q⟩:=q1
 obtain⟨t,rfl⟩:=r1
 refine call_range_1 ?_
 refine Jy (IsRange.new ..) (by omega) ?_
 refine(Uh (x:=(n:Int) - 1) (c:=-1) (n:=n) (by omega)).list (I1.ok.hd hc) (by
   have e1:(n:Int) - 1+((0:Nat):Int)*(-1)=(n:Int) - 1:=by simp
   have e2:(n:Int) - ((0:Nat):Int)=n:=by simp
   rw[e1,e2]
   exact Heap.get?_push_size _ rfl) (by simp) (λb hb=>by rw[List.mem_singleton.mp hb,Heap.size_push (_:Heap) (zr _ _ _)];exact Nat.lt_succ_self _) (by omega) λh' tk acc' c' kp e hi=>?_
 have kk:∀b o,s1.heap.get? b=some o->h'.get? b=some o:=λb o eb=>by
   refine kp b o (Nat.ne_of_lt ?_) (Heap.get?_push_of_some _ (Heap.get?_push_of_some _ eb))
   rw[Heap.size_push]
   exact Nat.lt_succ_of_lt (Heap.lt_size eb)
 have s1z:s1.heap.objs.size<=((s1.heap.push ({cls:=.type "range",data:=.fields #[.int 0 s1.toks,.int n t,.int 1 (s1.toks+1)]}:Obj)).push (zr ((n:Int) - 1) n (-1))).objs.size:=by
   rw[Heap.size_push,Heap.size_push]
   omega
 exact⟨.ref _,_,I1.laid (t':=tk) (o:=.lst ((Zn n).map λi=>V.int (i:Nat))) kk s1z ⟨by simp only[List.length_map,Zn,List.length_reverse,List.length_range];exact Nat.le_of_lt (qu hn),acc'.toList,c',Ua hi,by simpa using e⟩,rfl,q _ (I1.hok.fresh s1z)⟩)
end
end L2
set_option Elab.async false
set_option linter.all false
set_option maxRecDepth 100000
set_option maxHeartbeats 4000000
namespace PySem
namespace F
end F
end PySem
namespace L2
open PySem PySem.Spec PyProof.Rows
theorem Uv:∀(xs:List V) (us:List Value),xs.length=us.length->(∀(i:Nat) (x:V) (u:Value),xs[i]?=some x->us[i]?=some u->qJ x u)->qC xs us:=by
 intro xs
 induction xs with
 | nil=>intro us hl _;cases us with | nil=>exact .nil | cons _ _=>cases hl
 | cons x xs ih=>
   intro us hl hp
   cases us with
   | nil=>cases hl
   | cons u us=>exact .cons (hp 0 x u rfl rfl) (ih us (by simpa using hl) λi y w h1 h2=>hp (i+1) y w (by simpa using h1) (by simpa using h2))
section
variable {X:Cx} {e:Expr} {te:TE} {p1 p2 pos1 pos2:Pos}
end
end L2
set_option Elab.async false
set_option linter.all false
set_option maxRecDepth 100000
set_option maxHeartbeats 4000000
namespace L2
open PySem PySem.Spec PyProof.Rows
section
variable {X:Cx} {pins:List (Addr×Obj)} {σ:St} {H:Hp} {s:Shared} {h':Heap}
theorem qr.turnLaid {L:List Addr} {T:Addr} {o:HO} {t':Nat} (I:qr X pins σ H s) (k:∀b u,b∉L->s.heap.get? b=some u->h'.get? b=some u) (hf:∀b∈L,JY X pins H b) (hp:s.heap.objs.size<=T)
   (new:qB X.prog X.w (upd H T o) h' T o):qr X pins σ (upd H T o) {s with heap:=h',toks:=t'}:=by
 have hn:H T=none:=I.hok.fresh hp
 have up:∀b u,H b=some u->upd H T o b=some u:=λb u e=>by rw[qg (qm e hn)];exact e
 have nL:∀b u,H b=some u->b∉L:=λb u e z=>by rw[(hf b z).1]at e;cases e
 refine I.step (g':=s.gens) (d':=s.drawn) (ch:=L) (λb hb=>?_) (λb o _ _ hc e _=>k b o hc e) (λb o _ _ hc e _=>⟨o.slots,k b o hc e⟩) (λb ob hc e n=>?_)
   (λb o hc e=>⟨o,k b o hc e⟩) (λb xs e=>up b _ e) (λb o u e=>up b _ e) (λb ps e=>⟨#[],by rw[up b _ e];simp⟩) (λm hm=>?_) (λb u e=>?_) I.bare
 . obtain⟨f0,f1,f2,f3,f4,f5⟩:=hf b hb
   exact⟨f3,f1,f4,f5⟩
 . have:b≠T:=Nat.ne_of_lt (Nat.lt_of_lt_of_le (Heap.lt_size e) hp)
   rw[qg this]
   exact n
 . obtain⟨o,es,ep,ho,r⟩:=hm
   exact⟨o,es,ep,k _ o (λz=>(hf _ z).2.1 rfl) ho,r⟩
 . by_cases hb:b=T
   . subst hb
     rw[qd]at e
     cases e
     exact new
   . rw[qg hb]at e
     refine(I.hok b u e).stay (λc v hc q=>k c v ?_ q) (λc q=>up c _ q) (λc xs q=>up c _ q) (λc o q=>up c _ q)
     rcases hc with z | z
     . rw[z];exact nL b u e
     . exact nL c _ z
theorem qr.turnedL {L:List Addr} {t':Nat} (I:qr X pins σ H s) (k:∀b u,b∉L->s.heap.get? b=some u->h'.get? b=some u) (hf:∀b∈L,JY X pins H b):qr X pins σ H {s with heap:=h',toks:=t'}:=by
 have nL:∀b u,H b=some u->b∉L:=λb u e z=>by rw[(hf b z).1]at e;cases e
 refine I.step (g':=s.gens) (d':=s.drawn) (ch:=L) (λb hb=>?_) (λb o _ _ hc e _=>k b o hc e) (λb o _ _ hc e _=>⟨o.slots,k b o hc e⟩) (λ_ _ _ _ n=>n)
   (λb o hc e=>⟨o,k b o hc e⟩) (λ_ _ e=>e) (λ_ _ _ e=>e) (λb ps e=>⟨#[],by rw[e];simp⟩) (λm hm=>?_) (λb u e=>?_) I.bare
 . obtain⟨f0,f1,f2,f3,f4,f5⟩:=hf b hb
   exact⟨f3,f1,f4,f5⟩
 . obtain⟨o,es,ep,ho,r⟩:=hm
   exact⟨o,es,ep,k _ o (λz=>(hf _ z).2.1 rfl) ho,r⟩
 . refine(I.hok b u e).stay (λc v hc q=>k c v ?_ q) (λ_ q=>q) λ_ _ q=>q
   rcases hc with z | z
   . rw[z];exact nL b u e
   . exact nL c _ z
end
section
variable {X:Cx} {elts:List Expr} {x1:Nat} {tpos:Pos}
end
end L2
set_option Elab.async false
set_option linter.all false
set_option maxRecDepth 100000
set_option maxHeartbeats 4000000
namespace L2
open PySem PySem.Spec PyProof.Rows
section
variable {X:Cx}
theorem Yi:∀{cs:List Addr} {us:List Value},qC (cs.map V.ref) us->us=cs.map Value.ref
 | [],_,.nil=>rfl
 | c::cs,u::us,.cons r t=>by
   obtain rfl:u=Value.ref c:=r
   rw[List.map_cons,Yi t]
def Ru (K:PySem.W.Frag):R2:=λx y H Q=>∃d d',DV K H x d/\DV K H y d'/\PySem.SeqAt.shaped d=true/\PySem.SeqAt.shaped d'=true/\Q (.bl (PyData.eqv d d')) H
theorem Y6 (hu:X.A.units+64 < cLine):ZH X (compareOp .Eq) (Ru X.K):=by
 intro pins s σ H x y v u Q I rx ry h
 obtain⟨d,d',h1,h2,hs,hs',q⟩:=h
 obtain⟨as,ra⟩:=h1.reads I rx
 obtain⟨bs,rb⟩:=h2.reads I ry
 exact eq_dataH ra rb hs hs' hu ⟨.bl _,H,I,rfl,q⟩
end
section
variable {X:Cx} {o e:Expr} {es:List Expr} {ta:TE} {t:TA} {m:Str} {C C' f f':Addr} {fd fd':FuncData} {ps ps':List Str} {k k':Nat} {sp sp':Sp} {apos pos:Pos}
end
section
variable {X:Cx} {e:Expr} {es:List Expr} {te:TE} {t:TA}
end
end L2
set_option Elab.async false
set_option linter.all false
set_option maxRecDepth 100000
set_option maxHeartbeats 4000000
namespace L2
open PySem PySem.Spec PySem.W PyProof.Rows
theorem wB:∀(f n r:Nat),r<=1->minRun' f n r<=n+r
 | 0,n,r,_=>Nat.le_refl _
 | f+1,n,r,hr=>by
   rw[minRun'_succ]
   split
   . exact Nat.le_refl _
   . have h1:max r (n % 2)<=1:=Nat.max_le.mpr ⟨hr,by omega⟩
     have:=wB f (n / 2) (max r (n % 2)) h1
     omega
section
variable {P:Program} {w:World} {B:Around} {F:Value->Shared->Prop} {κ:SortKind} {it:Array Keyed} {z:Shared}
theorem XH {n:Nat} {R:Nat->Shared->Prop} (hc:∀i,1<=i->i < n->∀C:Bool->Shared->Prop,C false z->kas_cmp P w B κ it i (i - 1) C z) (hR:R n z):
   ∀(f a:Nat),1<=a->a+f=n->(kas_asc (List.toArray (List.range n)) f a).kasWp (kas_cmp P w B κ it) R z
 | 0,a,_,e=>by
   have e':a=n:=by omega
   subst e'
   exact hR
 | f+1,a,h1,e=>by
   have g:∀i,i < n->(List.toArray (List.range n)).getD i 0=i:=λi hi=>by simp [Array.getD,hi]
   show kas_cmp P w B κ it ((List.toArray (List.range n)).getD a 0) ((List.toArray (List.range n)).getD (a - 1) 0) _ z
   rw[g a (by omega),g (a - 1) (by omega)]
   refine hc a h1 (by omega) _ ?_
   show KasT.kasWp _ (if false=true then _ else _) R z
   rw[if_neg Bool.false_ne_true]
   exact XH hc hR f (a+1) (by omega) (by omega)
theorem Uo {n:Nat} {Q:Unit->SortSt->Shared->Prop} (h2:2<=n) (hc:∀i,1<=i->i < n->∀C:Bool->Shared->Prop,C false z->kas_cmp P w B κ it i (i - 1) C z)
   (hQ:∀st,arrOf st=(List.toArray (List.range n)).map (kas_item it)->failedOf st=none->Q () st z):kasC (model P w) B F sortRuns' Q (kas_st κ it (List.toArray (List.range n))) z:=by
 obtain⟨r,rfl⟩:∃r,n=r+2:=⟨n - 2,by omega⟩
 have sz:(List.toArray (List.range (r+2))).size=r+2:=by simp
 have sa:(arrOf (kas_st κ it (List.toArray (List.range (r+2))))).size=r+2:=(Array.size_map ..).trans sz
 have le:=wB (r+2) (r+2) 0 (by decide)
 rw[sortRuns'_eq]
 refine kasC_bind (kasC_get ?_)
 dsimp only
 rw[sa]
 generalize minRun' (r+2) (r+2) 0=M at le
 refine kasC_bind (kasC_range (show kasC _ _ _ (forIn (0::1::List.range' 2 r) _ _) _ _ _ from kasC_cons ?_))
 dsimp only
 rw[if_neg (by omega)]
 simp only[Nat.sub_zero,Nat.zero_add]
 refine kasC_bind (kas_count_ (G:=λq z'=>q=(r+2,List.toArray (List.range (r+2)))/\z'=z) (by omega) (by rw[sz];exact Nat.le_refl _) (λm p' z' _ _ _ hg=>?_) ?_)
 . obtain⟨e,rfl⟩:=hg
   cases e
   dsimp only
   rw[if_neg (by omega)]
   refine kasC_bind (kasC_get ?_)
   rw[show (pendingOf (kas_st κ it (List.toArray (List.range (r+2))))).back?=none from rfl]
   dsimp only
   refine kasC_bind (kasC_modify (kasC_pure (show kasC _ _ _ (forIn (1::List.range' 2 r) _ _) _ _ _ from kasC_cons ?_)))
   dsimp only
   rw[if_pos (Nat.le_refl _)]
   refine kasC_pure ?_
   dsimp only
   refine kasC_bind (kasC_range (show kasC _ _ _ (forIn (0::1::List.range' 2 r) _ _) _ _ _ from kasC_cons (kasC_bind (kasC_get ?_))))
   rw[if_pos (show (pendingOf (setPending (kas_st κ it (List.toArray (List.range (r+2)))) ((pendingOf (kas_st κ it (List.toArray (List.range (r+2))))).push (0,r+2,0)))).size<=1 from Nat.le_refl 1)]
   refine kasC_pure ?_
   dsimp only
   exact kasC_pure (hQ _ rfl rfl)
 . unfold kas_count
   rw[KasT.kasWp_bind]
   refine XH hc ?_ _ 1 (Nat.le_refl 1) (by omega)
   rw[if_pos (beq_self_eq_true _)]
   exact⟨rfl,rfl⟩
end
def QZ (h:Heap) (v:Value) (k:Int×Int):Prop:=∃p o n t u,v=.ref p/\h.get? p=some o/\o.cls=.type "tuple"/\o.data=.seq #[.int k.1 t,.int k.2 u] n
def zD (a b:Int×Int):Prop:=a.1 < b.1\/(a.1=b.1/\a.2 < b.2)
section
variable {P:Program} {w:World} {B:Around} {F:Value->Shared->Prop} {z:Shared}
theorem XL {v u:Value} {a b:Int×Int} (hv:QZ z.heap v b) (hu:QZ z.heap u a) (hlt:zD a b) {C:Bool->Shared->Prop} (hC:C false z):wpAny (model P w) B (keyLt' (tuples' true) v u) C (λ_ _=>False) z:=by
 obtain⟨p,o,n,t1,t2,rfl,h1,_,d1⟩:=hv
 obtain⟨p',o',n',t1',t2',rfl,h1',_,d1'⟩:=hu
 refine kat_lt h1 d1 h1' d1' ?_
 show KatLex P w B true _ C [(.int b.1 t1,.int a.1 t1'),(.int b.2 t2,.int a.2 t2')] 0 z
 refine kat_cons (SeqAt.EqAt.int_int b.1 t1 a.1 t1' P w _ _ ?_)
 rcases hlt with h | ⟨h,h'⟩
 . have e:(b.1==a.1)=false:=by
     rw[beq_eq_false_iff_ne]
     omega
   rw[e]
   refine kat_no (show wpAny _ _ (oneLt' true _ _) _ _ _ from oneLt_int ?_)
   rw[decide_eq_false (by omega)]
   exact hC
 . have e:(b.1==a.1)=true:=by rw[h];exact beq_self_eq_true _
   rw[e]
   refine kat_yes (kat_cons (SeqAt.EqAt.int_int b.2 t2 a.2 t2' P w _ _ ?_))
   have e2:(b.2==a.2)=false:=by
     rw[beq_eq_false_iff_ne]
     omega
   rw[e2]
   refine kat_no (show wpAny _ _ (oneLt' false _ _) _ _ _ from kat_one _ _ (lt_int ?_))
   show C (decide (b.2 < a.2)) z
   rw[decide_eq_false (by omega)]
   exact hC
theorem QZ.keep {h h':Heap} {v:Value} {k:Int×Int} (x:QZ h v k) (kp:∀b o,h.get? b=some o->o.cls=.type "tuple"->h'.get? b=some o):QZ h' v k:=by
 obtain⟨p,o,n,t,u,e,h1,c,d⟩:=x
 exact⟨p,o,n,t,u,e,kp p o h1 c,c,d⟩
theorem Ys (vs:List Value):(pairsOf vs).map (·.2)=vs.toArray:=by
 apply Array.ext'
 rw[Array.toList_map,pairsOf_toList,List.map_snd_zip (Nat.le_refl _)]
theorem Vf {h:Heap}:∀(vs:List Value) (ks:List (Int×Int)),vs.length=ks.length->(∀(i:Nat) (v:Value) (k:Int×Int),vs[i]?=some v->ks[i]?=some k->QZ h v k)->∃fs,KatTups h vs fs/\fs.length=vs.length/\∀v∈fs,∃i t,v=Value.int i t
 | [],_,_,_=>⟨[],.nil,rfl,λv hv=>(nomatch hv)⟩
 | v::vs,[],hl,_=>by cases hl
 | v::vs,k::ks,hl,hv=>by
   obtain⟨fs,tf,lf,hf⟩:=Vf vs ks (Nat.succ.inj hl) λi u q e1 e2=>hv (i+1) u q (by simpa using e1) (by simpa using e2)
   obtain⟨p,o,n,t,u,rfl,h1,c,d⟩:=hv 0 v k rfl rfl
   refine⟨.int k.1 t::fs,.cons h1 c d rfl tf,by simp [lf],λx hx=>?_⟩
   rcases List.mem_cons.mp hx with e | hx
   . exact⟨_,_,e⟩
   . exact hf x hx
theorem Ue {a:Addr} {vs:List Value} {ks:List (Int×Int)} {n:Nat} {R:PySem.Fin->Shared->Prop} (ho:z.heap.get? a=some (seqObj "list" vs.toArray n)) (hl:vs.length=ks.length) (hv:∀(i:Nat) (v:Value) (k:Int×Int),vs[i]?=some v->ks[i]?=some k->QZ z.heap v k)
   (hr:∀(i:Nat) (k k':Int×Int),ks[i]?=some k->ks[i+1]?=some k'->zD k k') (hz:vs.length<=100000)
   (k:R (.done (.ret .none)) {z with heap:=sortedHeap z.heap a vs vs.toArray}):wpAny (model P w) B (Builtin.«list.sort» ⟨[.ref a],[]⟩) R F z:=by
 have na:∀b o,z.heap.get? b=some o->o.cls=.type "tuple"->b≠a:=λb o e c q=>by
   rw[q,ho]at e
   cases e
   exact absurd c (show ¬Value.type "list"=Value.type "tuple" by decide)
 rw[list_sort_plain]
 refine wpAny_bind (listItems_at ho rfl (wpAny_bind (listUpdate_at ho rfl ?_)))
 obtain⟨c1,o1⟩:∃c,(z.heap.update a (Obj.mapSeq λ_=>#[])).get? a=some (seqObj "list" #[] c):=⟨_,get?_update_seq ho (λ_=>#[])⟩
 refine wpAny_bind (seqEpoch_at o1 rfl (wpAny_bind (wpAny_newTuple (wpAny_bind (wpAny_newList (wpAny_holding ?_))))))
 have lt:=Heap.lt_size ho
 have o2:(((z.heap.update a (Obj.mapSeq λ_=>#[])).push (seqObj "tuple" vs.toArray 0)).push (seqObj "list" #[] 0)).get? a=some (seqObj "list" #[] c1):=Heap.get?_push_of_some _ (Heap.get?_push_of_some _ o1)
 have kp:∀b o,z.heap.get? b=some o->o.cls=.type "tuple"->(((z.heap.update a (Obj.mapSeq λ_=>#[])).push (seqObj "tuple" vs.toArray 0)).push (seqObj "list" #[] 0)).get? b=some o:=λb o e c=>
   Heap.get?_push_of_some _ (Heap.get?_push_of_some _ ((Heap.get?_update_other _ _ (Ne.symm (na b o e c))).trans e))
 show wpAny (model P w) B _ R F {z with heap:=((z.heap.update a (Obj.mapSeq λ_=>#[])).push (seqObj "tuple" vs.toArray 0)).push (seqObj "list" #[] 0)}
 dsimp only
 have sv:vs.toArray.size=vs.length:=by simp
 have ends:∀st:SortSt,(arrOf st).map (·.2)=vs.toArray->failedOf st=none->wpAny (model P w) B (do
     let touched:=(<-seqEpoch a) != c1
     Builtin.List.listUpdate (.ref a) λ_=>(arrOf st).map (·.2)
     if let some e:=failedOf st then rule "list.sort.comparison-raised";throw e
     if touched then rule "list.sort.modified";raiseError "ValueError" "list modified during sort"
     ret .none) R F {z with heap:=((z.heap.update a (Obj.mapSeq λ_=>#[])).push (seqObj "tuple" vs.toArray 0)).push (seqObj "list" #[] 0)}:=λst e f=>by
   refine wpAny_bind (seqEpoch_at o2 rfl ?_)
   rw[e,f]
   refine wpAny_bind (listUpdate_at o2 rfl ?_ (hsz2:=by rw[sv,sizeLine_eq];omega))
   simp only[bne_self_eq_false,Bool.false_eq_true,if_false]
   exact wpAny_pure k
 by_cases h2:vs.toArray.size < 2
 . rw[if_pos h2,if_pos h2]
   refine wpAny_bind (wpAny_pure ?_)
   rw[StateT.run_pure]
   refine wpAny_bind (wpAny_pure ?_)
   exact ends (SortSt.mk' general' (vs.toArray.zip vs.toArray) #[] 7 none) (Ys vs) rfl
 . rw[if_neg h2,if_neg h2]
   have l2:2<=vs.length:=by omega
   have hv':∀(i:Nat) (v:Value) (q:Int×Int),vs[i]?=some v->ks[i]?=some q->QZ (((z.heap.update a (Obj.mapSeq λ_=>#[])).push (seqObj "tuple" vs.toArray 0)).push (seqObj "list" #[] 0)) v q:=λi v q e1 e2=>(hv i v q e1 e2).keep kp
   obtain⟨fs,tf,lf,hf⟩:=Vf vs ks hl hv'
   refine wpAny_bind (kat_kind (T:=.type "int") tf (by omega) (λv q=>?_) rfl ?_)
   . obtain⟨i,t,rfl⟩:=hf v q
     exact Looks.of_pure rfl
   . have e:vs.toArray.zip vs.toArray=(List.toArray (List.range vs.length)).map (kas_item (pairsOf vs)):=by
       have:=kas_range (pairsOf vs)
       rw[pairsOf_size]at this
       exact this.symm
     rw[e]
     have run:kasC (model P w) B F sortRuns' (λ_ st z'=>z'={z with heap:=((z.heap.update a (Obj.mapSeq λ_=>#[])).push (seqObj "tuple" vs.toArray 0)).push (seqObj "list" #[] 0)}/\(arrOf st).map (·.2)=vs.toArray/\failedOf st=none)
         (kas_st (tuples' true) (pairsOf vs) (List.toArray (List.range vs.length))) {z with heap:=((z.heap.update a (Obj.mapSeq λ_=>#[])).push (seqObj "tuple" vs.toArray 0)).push (seqObj "list" #[] 0)}:=by
       refine Uo l2 (λi i1 i2 C hC=>?_) λst e1 e2=>⟨rfl,by rw[e1,<-e];exact Ys vs,e2⟩
       unfold kas_cmp
       rw[kas_item_eq,kas_item_eq]
       have g:∀j,j < vs.length->vs[j]?=some (vs.getD j Value.none):=λj hj=>by simp [hj]
       have gk:∀j,j < vs.length->∃q,ks[j]?=some q:=λj hj=>⟨_,List.getElem?_eq_getElem (by omega)⟩
       obtain⟨q1,eq1⟩:=gk i i2
       obtain⟨q0,eq0⟩:=gk (i - 1) (by omega)
       have eq1':ks[i - 1+1]?=some q1:=by rw[show i - 1+1=i by omega];exact eq1
       exact XL (hv' i _ q1 (g i i2) eq1) (hv' (i - 1) _ q0 (g (i - 1) (by omega)) eq0) (hr (i - 1) q0 q1 eq0 eq1') hC
     refine wpAny_bind (wpAny_mono run (λr z' h3=>?_) λ_ _ x=>x)
     obtain⟨⟨⟩,st⟩:=r
     obtain⟨rfl,e1,e2⟩:=h3
     exact ends st e1 e2
end
end L2
set_option Elab.async false
set_option linter.all false
set_option maxRecDepth 100000
set_option maxHeartbeats 4000000
namespace PySem
def RawD (h:Heap) (d:Addr) (es:Array DictEntry) (ep:Nat):Prop:=∃o,h.get? d=some o/\o.ExactDict/\o.data=.dict es ep
theorem RawD.keep {h h':Heap} {d:Addr} {es:Array DictEntry} {ep:Nat} (x:RawD h d es ep) (k:∀o,h.get? d=some o->h'.get? d=some o):RawD h' d es ep:=let ⟨o,e,r⟩:=x;⟨o,k o e,r⟩
section
variable {P:Program} {w:World} {B:Around} {F':Value->Shared->Prop} {z:Shared} {d I:Addr} {es:Array DictEntry} {ep i:Nat}
theorem RawD.ty (x:RawD z.heap d es ep):z.TypeIs (.ref d) "dict":=let ⟨o,e,c,_⟩:=x;⟨o,e,c.1⟩
theorem vI {R:Value->Shared->Prop} (hd:(d==sysModules)=false) (x:RawD z.heap d es ep)
   (k:R (.ref z.heap.objs.size) {z with heap:=z.heap.push {cls:=.type "dict_keyiterator",data:=.fields #[.ref d,.int 0 0,.int es.size 0,.int ep 0]}}):wpAny (model P w) B (pyIter (.ref d)) R F' z:=by
 have ty:=x.ty
 obtain⟨o,ho,_,dat⟩:=x
 refine wpAny_pyIter_slot ty F.slot_dict_iter (wpAny_call_entry F.slot_dict_iter ty F.entry_dict_iter ?_ (F.args_dict_iter_1 _))
 unfold Builtin.«dict.__iter__»
 refine wpAny_bind (show wpAny _ _ (Builtin.Dict.dictSlotNone _ _) _ _ _ from ?_)
 unfold Builtin.Dict.dictSlotNone
 refine wpAny_bind (wpAny_notOrdered_dict ty (show wpAny _ _ (pure (Value.ref d)) _ _ z from wpAny_pure ?_))
 refine(show wpAny _ _ (Builtin.Dict.showsAll d >>= _) _ _ z from ?_)
 unfold Builtin.Dict.showsAll
 rw[if_neg (by rw[hd];exact Bool.false_ne_true)]
 refine wpAny_bind (wpAny_pure (wpAny_bind (wpAny_dictEntries ho dat (wpAny_bind (wpAny_dictEpoch ho dat ?_)))))
 exact wpAny_bind (wpAny_newObj_type (wpAny_pure ⟨_,rfl,"dict_keyiterator",_,⟨_,Heap.get?_push_size _ rfl,rfl⟩,F.slot_dict_keyiterator_next.lookup,by simpa [rawInt] using k⟩))
theorem vH {R:Option Value->Shared->Prop} (hit:z.heap.IsKeyIter I d i es.size ep) (x:RawD z.heap d es ep) (hi:i < es.size)
   (k:∀h',h'.IsKeyIter I d (i+1) es.size ep->Heap.SameBut I z.heap h'->R (some es[i].key) {z with heap:=h'}):wpAny (model P w) B (pyNext (.ref I)) R F' z:=by
 obtain⟨o,ho,hc,hd⟩:=id hit
 obtain⟨od,hod,_,dat⟩:=x
 have ty:=hit.typeIs
 unfold pyNext
 refine wpAny_bind (wpAny_attempt (wpAny_callSpecial?_slot (name:=Str.ofString "__next__") ty F.slot_dict_keyiterator_next (wpAny_call_entry F.slot_dict_keyiterator_next ty F.entry_dict_keyiterator_next ?_ (F.args_dict_keyiterator_next_1 _))))
 refine wpAny_bind (wpAny_pure (wpAny_bind (wpAny_bind (wpAny_bind ?_))))
 first | refine wpAny_typeNameOfWhole_keyiter ty (wpAny_pure (wpAny_bind (wpAny_fieldsOf ho hd ?_))) | refine wpAny_typeNameOf_keyiter ty (wpAny_pure (wpAny_bind (wpAny_fieldsOf ho hd ?_)))
 have own:Builtin.Dict_items.ownsTuple "dict_keyiterator"=false:=by decide
 simp only[own,Bool.false_eq_true,if_false]
 show wpAny _ _ (if (Value.ref d==Value.none)=true then _ else _) _ _ z
 rw[if_neg (show ¬((Value.ref d==Value.none)=true) from Bool.false_ne_true)]
 refine wpAny_bind (wpAny_pure (wpAny_bind (wpAny_dictEntries hod dat ?_)))
 rw[if_neg (by simp)]
 refine wpAny_bind (wpAny_pure (wpAny_bind (wpAny_dictEpoch hod dat ?_)))
 rw[if_neg (by simp)]
 refine wpAny_pure ?_
 simp only[show ¬((i:Int) < 0) from by omega,if_false,Int.toNat_natCast,Array.getElem?_eq_getElem hi]
 refine wpAny_bind (wpAny_bind ?_)
 first | refine wpAny_typeNameOfWhole_keyiter ty (wpAny_pure (wpAny_bind (wpAny_isOneOf_keyiter ty ?_))) | refine wpAny_typeNameOf_keyiter ty (wpAny_pure (wpAny_bind (wpAny_isOneOf_keyiter ty ?_)))
 refine(show wpAny _ _ (setField (.ref I) 1 (rawInt ((i:Int)+1)) >>= _) _ _ z from wpAny_bind (wpAny_setField ho hd (by simp) ?_))
 have hit':(z.heap.update I (Obj.mapFields (·.setIfInBounds 1 (rawInt ((i:Int)+1))))).IsKeyIter I d (i+1) es.size ep:=
   ⟨_,Heap.get?_update_self _ ho (Obj.isFreed_of_fields (Obj.data_mapFields hd _)),(Obj.cls_mapFields ..).trans hc,by rw[Obj.data_mapFields hd];simp [rawInt]⟩
 refine wpAny_bind (wpAny_holding (wpAny_bind (wpAny_isOneOf_keyiter (s:={z with heap:=z.heap.update I (Obj.mapFields (·.setIfInBounds 1 (rawInt ((i:Int)+1))))}) hit'.typeIs ?_)))
 refine(show wpAny _ _ (pure es[i].key) _ _ _ from wpAny_pure (wpAny_pure ⟨_,rfl,wpAny_pure (k _ hit' (Heap.SameBut.update ..))⟩))
theorem y7 {R:Option Value->Shared->Prop} (hB:B.handled=none) (hit:z.heap.IsKeyIter I d i es.size ep) (x:RawD z.heap d es ep) (hi:es.size<=i)
   (k:∀h',Heap.ExtBut I z.heap h'->R none {z with heap:=h'}):wpAny (model P w) B (pyNext (.ref I)) R F' z:=by
 obtain⟨o,ho,hc,hd⟩:=id hit
 obtain⟨od,hod,_,dat⟩:=x
 have ty:=hit.typeIs
 unfold pyNext
 refine wpAny_bind (wpAny_attempt (wpAny_callSpecial?_slot (name:=Str.ofString "__next__") ty F.slot_dict_keyiterator_next (wpAny_call_entry F.slot_dict_keyiterator_next ty F.entry_dict_keyiterator_next ?_ (F.args_dict_keyiterator_next_1 _))))
 refine wpAny_bind (wpAny_pure (wpAny_bind (wpAny_bind (wpAny_bind ?_))))
 first | refine wpAny_typeNameOfWhole_keyiter ty (wpAny_pure (wpAny_bind (wpAny_fieldsOf ho hd ?_))) | refine wpAny_typeNameOf_keyiter ty (wpAny_pure (wpAny_bind (wpAny_fieldsOf ho hd ?_)))
 have own:Builtin.Dict_items.ownsTuple "dict_keyiterator"=false:=by decide
 simp only[own,Bool.false_eq_true,if_false]
 show wpAny _ _ (if (Value.ref d==Value.none)=true then _ else _) _ _ z
 rw[if_neg (show ¬((Value.ref d==Value.none)=true) from Bool.false_ne_true)]
 refine wpAny_bind (wpAny_pure (wpAny_bind (wpAny_dictEntries hod dat ?_)))
 rw[if_neg (by simp)]
 refine wpAny_bind (wpAny_pure (wpAny_bind (wpAny_dictEpoch hod dat ?_)))
 rw[if_neg (by simp)]
 refine wpAny_pure ?_
 simp only[show ¬((i:Int) < 0) from by omega,if_false,Int.toNat_natCast,Array.getElem?_eq_none hi]
 refine wpAny_bind (wpAny_bind ?_)
 first | refine wpAny_typeNameOfWhole_keyiter ty (wpAny_pure ?_) | refine wpAny_typeNameOf_keyiter ty (wpAny_pure ?_)
 refine(show wpAny _ _ (setField (.ref I) 0 .none >>= _) _ _ z from wpAny_bind (wpAny_setField ho hd (by simp) ?_))
 refine(show wpAny _ _ (newExc (.type "StopIteration") [] >>= _) _ _ _ from wpAny_bind ?_)
 simp only[newExc,newTuple]
 refine wpAny_bind (wpAny_newObj_type (wpAny_bind (m:=firstArgMember _ _) (wpAny_of_eq (a:=Value.none) (by first | rfl | (simp only[firstArgMember];rfl)) (wpAny_newObj_type ?_ (by size_fits)))) (by size_fits))
 simp only[raiseNew]
 refine wpAny_bind (wpAny_handled ?_)
 rw[show B.in1.handled=none from hB]
 refine wpAny_bind (wpAny_pure (wpAny_throw ?_))
 refine wpAny_bind (wpAny_isInstance (T:="StopIteration") (b:=true) ⟨_,Heap.get?_push_size _ rfl,rfl⟩ isSubtype_stop ?_)
 exact wpAny_pure (k _ ((((Heap.SameBut.update ..).extBut).push _).push _))
end
end PySem
namespace PySem
open PySem.W
section
variable {P:Program} {w:World} {d:Addr} {es:Array DictEntry} {ep:Nat}
theorem Up {B:Around} (hB:B.handled=none) (I:Addr) (hne:d≠I):Walks P w B I [I,d] [I] es.size (λi v=>∃h:i < es.size,v=es[i].key) (λi h=>h.IsKeyIter I d i es.size ep/\RawD h d es ep) where
 sub:=λb hb=>by simp at hb;simp [hb]
 frame:=λ_ _ _ st k=>⟨st.1.at λo e=>k I (by simp) o e,st.2.keep λo e=>k d (by simp) o e⟩
 item:=λi z R G hi st q=>vH st.1 st.2 hi λh' it' sb=>q _ h' z.toks ⟨hi,rfl⟩ ⟨it',st.2.keep λo e=>sb.extBut d o hne e⟩ λb o hb e=>sb.extBut b o (λx=>hb (by simp [x])) e
 done:=λz R G st q=>y7 hB st.1 st.2 (Nat.le_refl _) λh' eb=>q h' z.toks λb o hb e=>eb b o (λx=>hb (by simp [x])) e
 self:=λ_ _ _ _ st q=>wpAny_pyIter_keyiter st.1 q
theorem yZ (hd:(d==sysModules)=false):KdlSrc P w "dict" d d es.size (λi v=>∃h:i < es.size,v=es[i].key) (λh=>RawD h d es ep) where
 type:=λz x=>x.ty
 there:=λh x=>let ⟨o,e,_⟩:=x;⟨Heap.lt_size e,Heap.lt_size e⟩
 keep:=λh h' x k=>x.keep λo e=>k d (.inl rfl) o e
 notList:=by decide
 notTuple:=by decide
 hint:=λ_ _ _ _ x q=>kdl_hint_dict x.ty q
 iter:=λA z hh x=>⟨_,_,λE Q q=>vI hd x q,Up hh _ (let ⟨o,e,_⟩:=x;Nat.ne_of_lt (Heap.lt_size e)),⟨⟨_,Heap.get?_push_size _ rfl,rfl,rfl⟩,x.keep λo e=>Heap.get?_push_of_some _ e⟩⟩
end
end PySem
namespace L2
open PySem PySem.Spec PySem.W PyProof.Rows
theorem zv {α β:Type} {G:α->β->Prop}:∀{l:List α} {m:List β},Paired G l m->∀{i:Nat} {a:α},l[i]?=some a->∃b,m[i]?=some b/\G a b
 | _,_,.nil,i,a,e=>by simp at e
 | _,_,.cons r t,0,a,e=>by cases e;exact⟨_,rfl,r⟩
 | _,_,.cons r t,i+1,a,e=>by
   obtain⟨b,eb,g⟩:=zv t (by simpa using e)
   exact⟨b,by simpa using eb,g⟩
section
variable {X:Cx}
def ZL (k:Int×Int):List qQ:=[Sum.inl k.1,Sum.inl k.2]
def wV:List V->Hp->VK->Prop:=λxs H Q=>∃(a:Addr) (kvs:List (List qQ×V)) (ks:List (Int×Int)),xs=[.ref a]/\H a=some (.dT kvs)/\kvs.map (·.1)=ks.map ZL/\(∀(i:Nat) (k k':Int×Int),ks[i]?=some k->ks[i+1]?=some k'->zD k k')/\kvs.length<=1000/\
 ∀(l:Addr) (ps:List Addr),H l=none->ps.length=ks.length->(∀(i:Nat) (p:Addr) (k:Int×Int),ps[i]?=some p->ks[i]?=some k->H p=some (.tup [.int k.1,.int k.2]))->Q (.ref l) (upd H l (.lst (ps.map V.ref)))
theorem Xy:∀(ps:List Addr),qC (ps.map V.ref) (ps.map Value.ref)
 | []=>.nil
 | p::ps=>.cons rfl (Xy ps)
theorem W2 (hc:X.calm=true):j8 X (.builtin "sorted") wV:=by
 intro pins s σ H xs us Q I r h
 obtain⟨a,kvs,ks,rfl,ea,eks,hr,hz,q⟩:=h
 obtain⟨u,rfl,ru⟩:=Qu r
 cases ru
 obtain⟨_,hsys,ys,pr,o,es,ep,eo,ex,dat,ents,_⟩:=(show qB X.prog X.w H s.heap a (.dT kvs) from I.hok a _ ea)
 have ly:kvs.length=ys.length:=Paired.length pr
 have lk:kvs.length=ks.length:=by simpa using congrArg List.length eks
 have se:es.size=ys.length:=by rw[<-Array.length_toList,ents,List.length_map]
 have key:∀i (hi:i < es.size),es[i].key=.ref ((ys.map (·.2.1)).getD i 0):=λi hi=>by
   have e1:es.toList[i]?=some es[i]:=by simp [hi]
   have hy:i < ys.length:=by omega
   rw[ents,List.getElem?_map,List.getElem?_eq_getElem hy]at e1
   have e2:=(Option.some.inj e1).symm
   rw[e2]
   show Value.ref ys[i].2.1=_
   simp [hy]
 have tup:∀(i:Nat) (p:Addr) (k:Int×Int),(ys.map (·.2.1))[i]?=some p->ks[i]?=some k->H p=some (.tup [.int k.1,.int k.2]):=λi p k e1 e2=>by
   rw[List.getElem?_map]at e1
   cases ey:ys[i]? with
   | none=>rw[ey]at e1;cases e1
   | some y=>
     rw[ey]at e1
     have ep':y.2.1=p:=Option.some.inj e1
     have hi:i < kvs.length:=by
       have:=(List.getElem?_eq_some_iff.mp ey).1
       omega
     obtain⟨y',ey',g1,g2,_⟩:=zv pr (List.getElem?_eq_getElem hi)
     rw[ey]at ey'
     cases ey'
     have ek:kvs[i].1=ZL k:=by
       have h1:(kvs.map (·.1))[i]?=some kvs[i].1:=by rw[List.getElem?_map,List.getElem?_eq_getElem hi];rfl
       rw[eks,List.getElem?_map,e2]at h1
       exact(Option.some.inj h1).symm
     rw[ek,ep']at g2
     exact g2
 have hh:X.A.in1.handled=none:=I.ok.hd hc
 refine Calls.call_function_entry kind_sorted plain_sorted entry_sorted (args_sorted1 _) ?_
 unfold Builtin.«sorted»
 refine wpAny_bind (m:=checkCount "sorted" 1 1 _) (wpAny_pure ?_)
 refine wpAny_bind (kdu_collect (yZ (es:=es) (ep:=ep) hsys) hh ⟨o,eo,ex,dat⟩ (by rw[se,sizeLine_eq];omega) λh1 tk acc k1 it=>?_)
 have eacc:acc.toList=(ys.map (·.2.1)).map Value.ref:=by
   refine List.ext_getElem? λi=>?_
   by_cases hi:i < es.size
   . have ha:i < acc.size:=by rw[it.1];exact hi
     have e1:acc[i]?=some acc[i]:=Array.getElem?_eq_getElem ha
     obtain⟨h',e2⟩:=it.2 i _ e1
     rw[Array.getElem?_toList,e1,e2,key i hi,List.getElem?_map]
     have hy:i < (ys.map (·.2.1)).length:=by rw[List.length_map];omega
     rw[List.getElem?_eq_getElem hy]
     simp [List.getD_eq_getElem?_getD,List.getElem?_eq_getElem hy]
   . rw[List.getElem?_eq_none (by rw[Array.length_toList,it.1];omega),List.getElem?_eq_none (by rw[List.length_map,List.length_map];omega)]
 rw[eacc]
 generalize hps:ys.map (·.2.1)=ps at eacc tup key
 have lp:ps.length=ks.length:=by rw[<-hps,List.length_map];omega
 refine wpAny_bind (wpAny_newList ?_)
 have I1:qr X pins σ H {s with heap:=h1,toks:=tk}:=I.kept (t':=tk) k1
 show wpAny _ _ _ _ _ {s with heap:=h1.push (seqObj "list" (ps.map Value.ref).toArray 0),toks:=tk}
 have oL:(h1.push (seqObj "list" (ps.map Value.ref).toArray 0)).get? h1.objs.size=some (seqObj "list" (ps.map Value.ref).toArray 0):=Heap.get?_push_size _ rfl
 have pa:∀(i:Nat) (v:Value) (k:Int×Int),(ps.map Value.ref)[i]?=some v->ks[i]?=some k->QZ (h1.push (seqObj "list" (ps.map Value.ref).toArray 0)) v k:=λi v k e1 e2=>by
   rw[List.getElem?_map]at e1
   cases ep1:ps[i]? with
   | none=>rw[ep1]at e1;cases e1
   | some p=>
     rw[ep1]at e1
     obtain rfl:=(Option.some.inj e1).symm
     obtain⟨its,rv,⟨ob,eb,cb,nb,db⟩,_⟩:=I1.tuple (.of (tup i p k ep1 e2):SqT X.K H p _)
     cases rv with
     | cons r1 rv=>
       cases rv with
       | cons r2 rv=>
         cases rv
         obtain⟨t1,rfl⟩:=r1
         obtain⟨t2,rfl⟩:=r2
         exact⟨p,ob,nb,t1,t2,rfl,Heap.get?_push_of_some _ eb,cb,db⟩
 refine wpAny_bind (wpAny_holding (wpAny_call_entry slot_list_sort ⟨_,oL,rfl⟩ entry_list_sort (Ue oL (by rw[List.length_map];exact lp) pa hr (by rw[List.length_map];omega) ⟨_,rfl,?_⟩) (args_list_sort _)))
 refine wpAny_pure ⟨_,rfl,?_⟩
 have lne:∀b o,h1.get? b=some o->b≠h1.objs.size:=λb o e=>Nat.ne_of_lt (Heap.lt_size e)
 have kf:∀b o,h1.get? b=some o->(sortedHeap (h1.push (seqObj "list" (ps.map Value.ref).toArray 0)) h1.objs.size (ps.map Value.ref) (ps.map Value.ref).toArray).get? b=some o:=λb o e=>by
   unfold sortedHeap
   rw[Heap.get?_update_other _ _ (Ne.symm (lne b o e))]
   exact Heap.get?_push_of_some _ (Heap.get?_push_of_some _ ((Heap.get?_update_other _ _ (Ne.symm (lne b o e))).trans (Heap.get?_push_of_some _ e)))
 obtain⟨c2,o2⟩:∃c,((h1.push (seqObj "list" (ps.map Value.ref).toArray 0)).update h1.objs.size (Obj.mapSeq λ_=>#[])).get? h1.objs.size=some (seqObj "list" #[] c):=⟨_,get?_update_seq oL (λ_=>#[])⟩
 obtain⟨c3,o3⟩:∃c,(sortedHeap (h1.push (seqObj "list" (ps.map Value.ref).toArray 0)) h1.objs.size (ps.map Value.ref) (ps.map Value.ref).toArray).get? h1.objs.size=some (seqObj "list" (ps.map Value.ref).toArray c):=
   ⟨_,get?_update_seq (Heap.get?_push_of_some _ (Heap.get?_push_of_some _ o2)) (λ_=>(ps.map Value.ref).toArray)⟩
 refine⟨.ref h1.objs.size,_,I1.laid (t':=tk) (o:=.lst (ps.map V.ref)) kf (Nat.le_refl _) ⟨by rw[List.length_map,lp,<-lk];exact Nat.le_of_lt (qu hz),_,c3,Xy ps,o3⟩,rfl,?_⟩
 exact q _ ps (I1.hok.fresh (Nat.le_refl _)) lp tup
end
end L2
set_option Elab.async false
set_option linter.all false
set_option maxRecDepth 100000
set_option maxHeartbeats 4000000
namespace L2
open PySem PySem.Spec PySem.W PyProof.Rows
section
variable {X:Cx}
def Rp:V->Option Int->Option Int->Hp->VK->Prop:=λx lo hi H Q=>∃(z:Str) (j:Int),x=.str z/\lo=none/\hi=some j/\z.length<=1000/\Q (.str (Txt.slice z none (some j))) H
theorem vA:RW X Rp:=by
 intro pins s σ H x v vl vu lo hi sl Q I rx hs pl pu h
 obtain⟨z,j,rfl,rfl,rfl,hz,q⟩:=h
 obtain⟨t,rfl⟩:=rx
 refine⟨"str",_,PySem.F.slot_str_getitem.lookup,typeIs_str _ _ _,?_⟩
 cases pl
 cases pu
 exact wpAny_getItem_str_slice (l:=none) (u:=some (j,_)) (st:=none) hs rfl (post_val_or_str ⟨Nat.le_trans (Txt.slice_le z none (some j)) (Nat.le_of_lt (qu hz)),λt' k=>⟨.str _,H,I.tok k,⟨t',rfl⟩,q⟩⟩)
theorem zj (z:Str) (j:Nat):(Txt.slice z none (some (j:Int))).cps.toList=z.cps.toList.take j:=by
 have hl:z.cps.toList.length=z.length:=Array.length_toList
 have idx:Builtin.Str.strSliceIndices none (some (j:Int)) 1 z.length=(List.range (min j z.length)).map (0+·):=by
   have e:Builtin.Str.strSliceIndices none (some (j:Int)) 1 z.length=sliceRange ((0:Nat):Int) ((min j z.length:Nat):Int) 1:=by
     unfold Builtin.Str.strSliceIndices
     simp only[show (1:Int) > 0 by decide,if_true,show ¬((j:Int) < 0) by omega,if_false]
     congr 1
     omega
   rw[e,sliceRange_one]
   rfl
 unfold Txt.slice
 rw[idx]
 split
 . rename_i h
   have hm:min j z.length=z.length:=by simpa using h
   rw[List.take_of_length_le]
   omega
 . rw[pick_run]
   show (z.cps.toList.drop 0).take (min j z.length)=_
   rw[List.drop_zero]
   by_cases hj:j<=z.length
   . rw[Nat.min_eq_left hj]
   . rw[Nat.min_eq_right (by omega),List.take_of_length_le (by omega),List.take_of_length_le (by omega)]
def x8 (n:Nat):List V:=(List.range n).map λi=>V.int (i:Nat)
def tLr (te:TE):TE:=λσ H Q=>te σ H λx H1=>∃n:Nat,x=.int n/\n<=1000/\∀l,H1 l=none->Q (.ref l) (upd H1 l (.lst (x8 n)))
theorem yA {n:Nat} {acc:Array Value} (h:ItemsOf (λi v=>∃t,v=.int (0+i*1) t) acc n):qC (x8 n) acc.toList:=by
 obtain⟨hz,hv⟩:=h
 refine Uv _ _ (by simp [x8,hz]) λi x u h1 h2=>?_
 have h2':acc[i]?=some u:=by simpa using h2
 obtain⟨t,rfl⟩:=hv i u h2'
 have hi:i < n:=by
   have:=(Array.getElem?_eq_some_iff.mp h2').1
   omega
 unfold x8 at h1
 rw[List.getElem?_map,List.getElem?_range hi]at h1
 obtain rfl:=(Option.some.inj h1).symm
 refine⟨t,?_⟩
 congr 1
 omega
variable {e:Expr} {te:TE} {p1 p3 pos1 pos3:Pos}
theorem K7 (hc:X.calm=true) (g1:Gl X "list") (m1:X.mg "list"=none) (g3:Gl X "range") (m3:X.mg "range"=none) (ha:JE X e te) (hs:starEach [e] X.env=[(false,eval e X.env)]:=by rfl) (hs2:starEach [.Call (.Name "range" p3) [e] [] pos3] X.env=[(false,eval (.Call (.Name "range" p3) [e] [] pos3) X.env)]:=by rfl):JE X (.Call (.Name "list" p1) [.Call (.Name "range" p3) [e] [] pos3] [] pos1) (tLr te):=.of (by
 have ha:=ha.to
 intro pins s σ H Q I h
 refine Call_ (Qz I g1 m1 boot_list (PyProof.Rows.callWith_type1 (vn hs2 ?_) (by rw[hs2];rfl) rfl))
 refine Call_ (Qz I g3 m3 boot_range (PyProof.Rows.callWith_type1 (vn hs (je (ha pins s σ H _ I h) λu s1 ⟨x,H1,I1,r1,q1⟩=>?_)) (by rw[hs];rfl) rfl))
 obtain⟨n,rfl,hn,q⟩:=q1
 obtain⟨t,rfl⟩:=r1
 refine call_range_1 ?_
 refine call_list_range (n:=n) (I1.ok.hd hc) (IsRange.new ..) (small_one (by omega) (by omega) (by omega) (by omega)) (Vz n) (by omega) λh' tk acc' c' kp e hi=>?_
 have s1z:s1.heap.objs.size<=(s1.heap.push ({cls:=.type "range",data:=.fields #[.int 0 s1.toks,.int n t,.int 1 (s1.toks+1)]}:Obj)).objs.size:=by
   rw[Heap.size_push]
   omega
 exact⟨.ref _,_,I1.laid (t':=tk) (o:=.lst (x8 n)) (λb o eb=>kp b o (Heap.get?_push_of_some _ eb)) s1z ⟨by simp only[x8,List.length_map,List.length_range];exact Nat.le_of_lt (qu hn),acc'.toList,c',yA hi,by simpa using e⟩,rfl,q _ (I1.hok.fresh s1z)⟩)
theorem U2 (hc:X.calm=true):j8 X (.type "set") (λxs H Q=>∃(p:Addr) (ns:List Int),xs=[.ref p]/\SqL X.K H p (ns.map V.int)/\ns.length<=1000/\∀l S,H l=none->Q (.ref l) (upd H l (.set S (firstMet (λi=>ns.getD i 0) ns.length).length))):=by
 intro pins s σ H xs us Q I r h
 obtain⟨p,ns,rfl,hq,hz,q⟩:=h
 obtain⟨u,rfl,ru⟩:=Qu r
 cases ru
 obtain⟨its,rv,pl,_⟩:=I.list hq
 have hl:=rv.length
 rw[List.length_map]at hl
 have hsz:its.toArray.size=ns.length:=by rw[List.size_toArray,<-hl]
 refine call_set_list (ns:=ns) (I.ok.hd hc) pl.isList (by simpa using WV rv) (by rw[hsz];show ns.length+1 < 4096;omega) λh' tk so kp=>?_
 rw[hsz]at so
 exact⟨.ref s.heap.objs.size,_,I.laid (t':=tk) (o:=.set _ _) (λb o e=>kp b o (Heap.lt_size e) e) (Nat.le_refl _) so,rfl,q _ _ (I.hok.fresh (Nat.le_refl _))⟩
theorem Wi:j8 X (.builtin "len") (λxs H Q=>∃a S n,xs=[V.ref a]/\H a=some (.set S n)/\Q (.int (n:Nat)) H):=by
 intro pins s σ H xs us Q I r h
 obtain⟨a,S,n,rfl,ea,q⟩:=h
 obtain⟨u,rfl,ru⟩:=Qu r
 cases ru
 obtain⟨o,es,ep,t,e1,e2,e3,_,_,b,f,rfl⟩:=(show qB X.prog X.w H s.heap a (.set S n) from I.hok a _ ea)
 refine call_len_set e1 e2 e3 f (by have:es.size < 4096:=b;omega) ⟨.int _,H,I.tok _,⟨_,rfl⟩,q⟩
end
end L2
set_option Elab.async false
set_option linter.all false
set_option maxRecDepth 100000
set_option maxHeartbeats 4000000
namespace L2
open PySem PySem.Spec PyProof.Rows
def Gu (K:PySem.W.Frag) (a:Addr):It:=⟨λi H=>∃xs x,SqL K H a xs/\xs[i]?=some x,
 λi H v H'=>∃p,H p=none/\v=.ref p/\∀xs x,SqL K H a xs->xs[i]?=some x->H'=upd H p (.tup [.int (i:Nat),x]),
 λi H=>∃xs,SqL K H a xs/\xs.length<=i⟩
theorem Uc {P:Program} {w:World} {K:PySem.W.Frag} {elts:List Expr} {x1:Nat} {tpos:Pos} (a e it:Addr) (hne:e≠it):
   W4 P w K (.Tuple elts x1 tpos) (Gu K a) [e,it] e (λi h=>(∃old,IsEnum h e it i old)/\h.IsListIter it a i) where
 mem:=by simp
 obj:=λi h st c hc=>by
   obtain⟨⟨old,he⟩,⟨o1,e1,c1,d1⟩⟩:=st
   simp only[List.mem_cons,List.mem_nil_iff,or_false]at hc
   rcases hc with rfl | rfl
   . exact⟨_,he,λv z=>by cases z⟩
   . exact⟨o1,e1,λv z=>by rw[d1]at z;cases z⟩
 keep:=λi h h' st k=>by
   obtain⟨⟨old,he⟩,h1⟩:=st
   exact⟨⟨old,k e (by simp) _ he⟩,h1.at λo e=>k it (by simp) o e⟩
 item:=by
   intro X hP hw hK hc i pins s σ H E I hf st hg
   subst hP hw hK
   obtain⟨⟨old,he⟩,h1⟩:=st
   obtain⟨xs,x,qa,hx⟩:=hg
   obtain⟨its,rv,p,_⟩:=I.list qa
   obtain⟨u,hu,ru⟩:=rv.get hx
   refine wpAny_pyNext_enum_item he h1 p.isList (x:=u) (by simpa using hu) hne λh' z1 z2 z3 z4 kk=>⟨_,rfl,?_⟩
   refine wpAny_letOwnedTupleGo_enum z1 λh'' z1' sb=>?_
   have nT:∀c o,s.heap.get? c=some o->s.heap.objs.size≠c:=λc o e=>Nat.ne_of_gt (Heap.lt_size e)
   have kT:∀c o,c≠e->h'.get? c=some o->h''.get? c=some o:=λc o hc e=>(sb.2 c hc).trans e
   have I1:qr X pins σ (upd H s.heap.objs.size (.tup [.int (i:Nat),x])) {s with heap:=h'',toks:=s.toks+1}:=I.turnLaid (L:=[e,it]) (t':=s.toks+1)
     (λc o hc e=>kT c o (λz=>hc (by simp [z])) (kk c o (λz=>hc (by simp [z])) (λz=>hc (by simp [z])) e)) hf (Nat.le_refl _)
     ⟨by show 2<=sizeLine;decide,[.int i s.toks,u],.cons ⟨_,rfl⟩ (.cons ru .nil),⟨_,kT _ _ (nT _ _ he) z3,rfl,_,rfl⟩⟩
   refine⟨.ref s.heap.objs.size,_,I1,rfl,⟨s.heap.objs.size,I.hok.fresh (Nat.le_refl _),rfl,λxs' x' qa' hx'=>?_⟩,⟨⟨_,z1'⟩,z2.at λo e=>kT _ o (Ne.symm hne) e⟩,λc hc=>?_⟩
   . rw[I.list_inj qa' qa,hx]at hx'
     cases hx'
     rfl
   . have h0:=(hf c hc).1
     by_cases ec:c=s.heap.objs.size
     . subst ec
       obtain⟨o1,e1,_⟩:=h1
       simp only[List.mem_cons,List.mem_nil_iff,or_false]at hc
       rcases hc with e | e
       . exact absurd e (nT _ _ he)
       . exact absurd e (nT _ _ e1)
     . rw[qg ec];exact h0
 done:=by
   intro X hP hw hK hc i pins s σ H E I hf st hg
   subst hP hw hK
   obtain⟨⟨old,he⟩,h1⟩:=st
   obtain⟨xs,qa,hl⟩:=hg
   obtain⟨its,rv,p,_⟩:=I.list qa
   have l1:=rv.length
   exact wpAny_pyNext_enum_end (I.ok.hd hc) he h1 p.isList (by simp;omega) λh' kk=>⟨rfl,I.turnedL (L:=[e,it]) (t':=s.toks) (λc o hc e=>kk c o (λz=>hc (by simp [z])) e) hf⟩
 self:=λ_ _ _ _ _ st h=>let ⟨⟨_,he⟩,_⟩:=st;wpAny_pyIter_enum he h
section
variable {X:Cx} {elts:List Expr} {x1:Nat} {tpos:Pos}
def Gd (K:PySem.W.Frag) (ta:TA):TI:=λσ H R=>ta σ H λvs H1=>∃a,vs=[.ref a]/\(∃xs,SqL K H1 a xs)/\R (Gu K a) H1
theorem Xi {a:Expr} {ta:TA} {p pos:Pos} (hg:Gl X "enumerate") (hm:X.mg "enumerate"=none) (ha:JA X [a] ta) (hs:starEach [a] X.env=[(false,eval a X.env)]:=by rfl):JI X (.Tuple elts x1 tpos) (.Call (.Name "enumerate" p) [a] [] pos) (Gd X.K ta):=.of (by
 have ha:=ha.to
 intro pins s σ H R I h
 refine Call_ (Qz I hg hm boot_enumerate (PyProof.Rows.callWith_type1 (je (ha pos pins s σ H _ I h) λus s1 ⟨vs,H1,I1,r1,q1⟩=>?_) (by rw[hs];rfl) rfl))
 obtain⟨l,e,⟨xs,qa⟩,q⟩:=q1
 subst e
 cases r1 with
 | cons r rr=>
   cases rr
   cases r
   obtain⟨its,rv,p,_⟩:=I1.list qa
   refine call_enumerate_list p.isList λh' z1 z2 z3 kk=>?_
   refine wpAny_pyIter_enum z1 ?_
   have I2:qr X pins σ H1 {s1 with heap:=h'}:=I1.kept (t':=s1.toks) kk
   have fr:∀c,s1.heap.objs.size<=c->JY X pins H1 c:=λc hc=>I1.fpOk hc (I1.hok.fresh hc)
   refine⟨s1.heap.objs.size+1,[s1.heap.objs.size+1,s1.heap.objs.size],_,_,H1,rfl,I2,Uc l (s1.heap.objs.size+1) s1.heap.objs.size (Nat.succ_ne_self _),⟨⟨_,z1⟩,z2⟩,λc hc=>?_,q⟩
   simp only[List.mem_cons,List.mem_nil_iff,or_false]at hc
   rcases hc with e | e<;>rw[e]<;>first | exact fr _ (Nat.le_add_right _ _) | exact fr _ (Nat.le_refl _))
end
theorem zQ {K:PySem.W.Frag} {a:Addr} {xs:List V} {g:TG} {tb:TS} {D:QF} {σ:St} {H:Hp} (Pv:Nat->St->Hp->Prop) (h0:Pv 0 σ H) (hl:∀i σ H,i<=xs.length->Pv i σ H->SqL K H a xs)
   (hs:∀i x σ H p,xs[i]?=some x->H p=none->Pv i σ H->g (.ref p) σ (upd H p (.tup [.int (i:Nat),x])) λσ2 H2=>tb {D with nx:=Pv (i+1),ct:=Pv (i+1),bk:=D.nx} σ2 H2) (hd:∀σ H,Pv xs.length σ H->D.nx σ H):
   ∃W:Nat->Nat->St->Hp->Prop,(∃m,W 0 m σ H)/\∀i m σ H,W i m σ H->
    ((Gu K a).stop i H/\D.nx σ H)\/((Gu K a).go i H/\∃N:St->Hp->Prop,(∀σ' H',N σ' H'->∃m',m' < m/\W (i+1) m' σ' H')/\∀x H',(Gu K a).yld i H x H'->g x σ H' λσ2 H2=>tb {D with nx:=N,ct:=N,bk:=D.nx} σ2 H2):=by
 refine⟨λi m σ H=>m=xs.length - i/\i<=xs.length/\Pv i σ H,⟨xs.length,by simp,Nat.zero_le _,h0⟩,?_⟩
 rintro i m σ H ⟨rfl,hi,p⟩
 have qa:=hl i σ H hi p
 by_cases hlt:i < xs.length
 . have ex:xs[i]?=some xs[i]:=List.getElem?_eq_getElem hlt
   refine .inr ⟨⟨xs,_,qa,ex⟩,Pv (i+1),λσ' H' p'=>⟨xs.length - (i+1),by omega,rfl,hlt,p'⟩,λx H' yl=>?_⟩
   obtain⟨pp,hp,rfl,e⟩:=yl
   rw[e xs _ qa ex]
   exact hs i _ σ H pp ex hp p
 . have e:i=xs.length:=by omega
   subst e
   exact .inl ⟨⟨xs,qa,Nat.le_refl _⟩,hd σ H p⟩
theorem Jc (ns:List Nat):∀i,i<=ns.length->preSum (λj=>((ns.getD j 0:Nat):Int)) i=(((ns.take i).sum:Nat):Int)
 | 0,_=>by simp [preSum]
 | i+1,h=>by
   have hi:i < ns.length:=h
   show preSum _ i+_=_
   rw[Jc ns i (Nat.le_of_lt hi),List.take_add_one,List.getElem?_eq_getElem hi,List.sum_append]
   simp [List.getD_eq_getElem?_getD,List.getElem?_eq_getElem hi]
theorem ZJ (ns:List Nat) (i:Nat):(ns.take i).sum<=ns.sum:=by
 have h:(ns.take i++ns.drop i).sum=ns.sum:=by rw[List.take_append_drop]
 rw[List.sum_append]at h
 omega
theorem XZ (ns:List Nat) (i:Nat):ns.getD i 0<=ns.sum:=by
 have h:=ZJ ns (i+1)
 rw[List.take_add_one,List.sum_append]at h
 rw[List.getD_eq_getElem?_getD]
 cases e:ns[i]? with
 | none=>exact Nat.zero_le _
 | some x=>
   rw[e]at h
   simp at h ⊢
   omega
section
variable {X:Cx}
theorem U1 (hc:X.calm=true):j8 X (.builtin "sum") (λxs H Q=>∃(p:Addr) (ns:List Nat),xs=[.ref p]/\SqL X.K H p (ns.map λn=>V.int ((n:Nat):Int))/\ns.sum < 2^62/\Q (.int (ns.sum:Nat)) H):=by
 intro pins s σ H xs us Q I r h
 obtain⟨p,ns,rfl,hq,hs,q⟩:=h
 obtain⟨u,rfl,rx⟩:=Qu r
 cases rx
 obtain⟨its,rv,pl,hz⟩:=I.list hq
 have hlt:p < s.heap.objs.size:=by
   obtain⟨o,n,e,_⟩:=pl
   exact Heap.lt_size e
 have hn:its.toArray.size=ns.length:=by
   have:=rv.length
   rw[List.length_map]at this
   simp only[List.size_toArray]
   omega
 have hh:X.A.in1.handled=none:=I.ok.hd hc
 refine call_sum_walk (wpAny_pyIter_list pl.isList ?_)
 refine⟨s.heap.objs.size,[s.heap.objs.size,p],[s.heap.objs.size],its.toArray.size,λi v=>its.toArray[i]?=some v,_,λj=>((ns.getD j 0:Nat):Int),rfl,Walks.list hh s.heap.objs.size p (Nat.ne_of_lt hlt) its.toArray,
   ⟨⟨_,Heap.get?_push_size _ rfl,rfl,rfl⟩,pl.isList.at λo e=>Heap.get?_push_of_some _ e⟩,?_,?_,?_,λh' tk t' hk=>?_⟩
 . intro b hb
   show b < (s.heap.push _).objs.size
   rw[Heap.size_push]
   simp only[List.mem_cons,List.mem_nil_iff,or_false]at hb
   rcases hb with e | e
   . rw[e];exact Nat.lt_succ_self _
   . rw[e];exact Nat.lt_succ_of_lt hlt
 . intro i v hP
   have hi:its[i]?=some v:=by simpa using hP
   cases e:ns[i]? with
   | none=>
     exfalso
     have h1:(ns.map λn=>V.int ((n:Nat):Int))[i]?=none:=by rw[List.getElem?_map,e];rfl
     rw[qC.none_of rv h1]at hi
     cases hi
   | some b=>
     have h1:(ns.map λn=>V.int ((n:Nat):Int))[i]?=some (V.int b):=by rw[List.getElem?_map,e];rfl
     obtain⟨u,hu,ru⟩:=rv.get h1
     rw[hi]at hu
     cases hu
     obtain⟨t,rfl⟩:=ru
     refine⟨t,?_⟩
     show Value.int b t=.int ((ns.getD i 0:Nat):Int) t
     rw[List.getD_eq_getElem?_getD,e]
     rfl
 . intro j hj
   rw[hn]at hj
   have h1:=XZ ns j
   have h2:=ZJ ns (j+1)
   have h3:=Jc ns (j+1) hj
   refine⟨⟨?_,?_⟩,⟨?_,?_⟩⟩
   . show -(2^63)<=((ns.getD j 0:Nat):Int)
     omega
   . show ((ns.getD j 0:Nat):Int) < 2^63
     omega
   . rw[h3];omega
   . rw[h3];omega
 . rw[hn,Jc ns _ (Nat.le_refl _),List.take_of_length_le (Nat.le_refl _)]
   refine⟨.int (ns.sum:Nat),H,?_,⟨_,rfl⟩,q⟩
   exact I.kept (h':=h') (t':=tk) λb o e=>hk b o (by
     intro z
     have z':b=s.heap.objs.size:=by simpa using z
     exact absurd (Heap.lt_size e) (by rw[z'];exact Nat.lt_irrefl _)) (Heap.get?_push_of_some _ e)
end
end L2
set_option Elab.async false
set_option linter.all false
set_option maxRecDepth 100000
set_option maxHeartbeats 4000000
namespace L2
open PySem PySem.Spec PyProof.Rows
structure Va (fs:List Addr) (ex:List Addr) (h h':Heap):Prop where
 keep:∀b o,b∉fs->b∉ex->h.get? b=some o->h'.get? b=some o
 slot:∀b o,b∈fs->b∉ex->h.get? b=some o->∃sl,h'.get? b=some {o with slots:=sl}
def ym (T:Addr) (fl:Value) (h:Heap):Prop:=∃ts,h.get? T=some {cls:=.type "traceback",data:=.fields ts}/\ts[3]?=some fl
section
variable {M:Model} {A:Around} {E:Value->Shared->Prop} {s:Shared} {base:Heap} {env:Env} {outer:List Env} {L e:Addr} {cl head:Value} {d:Option Addr} {vs:Array Value} {had:Bool} {Q:Unit->Shared->Prop}
theorem vf (fr:A.frames=some (env::outer)) (ff:s.heap.FunFrames base (env::outer)) (fm:env.frame=some L)
   (he:s.heap.get? e=some {cls:=cl,dict:=d,data:=.fields vs}) (sz:1 < vs.size)
   (k:∀h' T,s.heap.objs.size<=T->Va (ZO (env::outer)) [e] s.heap h'->h'.get? e=some {cls:=cl,dict:=d,data:=.fields (vs.setIfInBounds 1 (.ref T))}->ym T (rawInt L) h'->Q () {s with heap:=h'}):
   wpAny M A (frameOf env >>= λa=>entryPlaceOf L had >>= λpl=>EntryCells.newEntry head a .none (rawInt L) .none pl >>= λb=>setField (.ref e) 1 b) Q E s:=by
 have out:e∉ZO (env::outer):=λz=>by
   obtain⟨_,o,ho,nf⟩:=ff.mem z
   rw[he]at ho
   cases ho
   exact nf vs rfl
 refine wpAny_bind (wpAny_frameOf_fun fr ff fm λh1 so=>?_)
 refine wpAny_bind (wpAny_entryPlaceOf λpl ip=>?_)
 have e1:h1.get? e=some {cls:=cl,dict:=d,data:=.fields vs}:=(so.2.1 e out).trans he
 unfold EntryCells.newEntry newFields
 refine wpAny_bind (wpAny_newObj_type ?_ (ip.sizeOk5 _ _ _ _ _))
 have ne:e≠h1.objs.size:=Nat.ne_of_lt (Heap.lt_size e1)
 refine wpAny_setField (Heap.get?_push_of_some _ e1) rfl sz (k _ h1.objs.size (Nat.le_of_eq so.1.symm) ⟨λb o n1 n2 q=>?_,λb o n1 n2 q=>?_⟩ ?_ ⟨_,(Heap.get?_update_other _ _ ne).trans (Heap.get?_push_size _ rfl),?_⟩)
 . have n3:b≠e:=λz=>n2 (by simp [z])
   rw[Heap.get?_update_other _ _ (Ne.symm n3)]
   exact Heap.get?_push_of_some _ ((so.2.1 b n1).trans q)
 . have n3:b≠e:=λz=>n2 (by simp [z])
   obtain⟨sl,r⟩:=so.2.2 b o q
   exact⟨sl,by rw[Heap.get?_update_other _ _ (Ne.symm n3)];exact Heap.get?_push_of_some _ r⟩
 . exact Heap.get?_update_self _ (Heap.get?_push_of_some _ e1) rfl
 . rcases ip with rfl | ⟨_,_,_,_,_,_,_,rfl⟩<;>simp
theorem XT (fr:A.frames=some (env::outer)) (ff:s.heap.FunFrames base (env::outer)) (fm:env.frame=some L)
   (he:s.heap.get? e=some {cls:=cl,dict:=d,data:=.fields vs}) (h1:vs[1]?=some .none)
   (k:∀h' T,s.heap.objs.size<=T->Va (ZO (env::outer)) [e] s.heap h'->h'.get? e=some {cls:=cl,dict:=d,data:=.fields (vs.setIfInBounds 1 (.ref T))}->ym T (rawInt L) h'->Q () {s with heap:=h'}):
   wpAny M A (noteFrame (.ref e) env) Q E s:=by
 unfold noteFrame
 simp only[fm]
 refine wpAny_bind (wpAny_field he rfl h1 ?_)
 rw[if_neg (show ¬((Value.none != Value.none)=true) by decide)]
 exact vf fr ff fm he (Array.getElem?_eq_some_iff.mp h1).1 k
theorem UD {T:Addr} (fm:env.frame=some L) (he:s.heap.get? e=some {cls:=cl,dict:=d,data:=.fields vs}) (h1:vs[1]?=some (.ref T)) (st:ym T (rawInt L) s.heap) (k:Q () s):
   wpAny M A (noteFrame (.ref e) env) Q E s:=by
 obtain⟨ts,ht,h3⟩:=st
 unfold noteFrame
 simp only[fm]
 refine wpAny_bind (wpAny_field he rfl h1 ?_)
 rw[if_pos (show (Value.ref T != Value.none)=true by simp)]
 refine wpAny_bind (wpAny_field ht rfl h3 ?_)
 rw[if_pos (show (rawInt L==rawInt L)=true by simp [rawInt])]
 exact wpAny_pure k
theorem Y9 {T:Addr} (fr:A.frames=some (env::outer)) (ff:s.heap.FunFrames base (env::outer)) (fm:env.frame=some L)
   (he:s.heap.get? e=some {cls:=cl,dict:=d,data:=.fields vs}) (h1:vs[1]?=some (.ref T)) (st:ym T .none s.heap) (ne:T≠e)
   (k:∀h' T',s.heap.objs.size<=T'->Va (ZO (env::outer)) [e,T] s.heap h'->(∃o,h'.get? T=some o)->h'.get? e=some {cls:=cl,dict:=d,data:=.fields (vs.setIfInBounds 1 (.ref T'))}->ym T' (rawInt L) h'->Q () {s with heap:=h'}):
   wpAny M A (noteFrame (.ref e) env) Q E s:=by
 obtain⟨ts,ht,h3⟩:=st
 unfold noteFrame
 simp only[fm]
 refine wpAny_bind (wpAny_field he rfl h1 ?_)
 rw[if_pos (show (Value.ref T != Value.none)=true by simp)]
 refine wpAny_bind (wpAny_field ht rfl h3 ?_)
 rw[if_neg (show ¬((Value.none==rawInt L)=true) by simp [rawInt])]
 refine wpAny_bind (wpAny_setField ht rfl (Array.getElem?_eq_some_iff.mp h3).1 ?_)
 have oth:∀b,b≠T->(s.heap.update T (Obj.mapFields (·.setIfInBounds 3 Value.none))).get? b=s.heap.get? b:=λb n=>Heap.get?_update_other _ _ (Ne.symm n)
 have tno:T∉ZO (env::outer):=λz=>by
   obtain⟨_,o,ho,nf⟩:=ff.mem z
   rw[ht]at ho
   cases ho
   exact nf ts rfl
 refine vf fr (ff.of_keeps λb o hb nf=>⟨o,(oth b λz=>?_).trans hb,rfl⟩) fm ((oth e (Ne.symm ne)).trans he) (Array.getElem?_eq_some_iff.mp h1).1 λh' T' hT F q1 q2=>?_
 . rw[z,ht]at hb
   cases hb
   exact nf ts rfl
 . have upT:=Heap.get?_update_self (Obj.mapFields (·.setIfInBounds 3 Value.none)) ht rfl
   refine k h' T' (Nat.le_trans (Nat.le_of_eq (by simp)) hT) ⟨λb o n1 n2 q=>?_,λb o n1 n2 q=>?_⟩ ⟨_,F.keep T _ tno (by simp [ne]) upT⟩ q1 q2
   . simp only[List.mem_cons,List.not_mem_nil,or_false,not_or]at n2
     exact F.keep b o n1 (by simp [n2.1]) ((oth b n2.2).trans q)
   . simp only[List.mem_cons,List.not_mem_nil,or_false,not_or]at n2
     exact F.slot b o n1 (by simp [n2.1]) ((oth b n2.2).trans q)
theorem QU {T:Addr} {fl:Value} {fs:List Addr} (he:s.heap.get? e=some {cls:=cl,dict:=d,data:=.fields vs}) (h1:vs[1]?=some (.ref T)) (st:ym T fl s.heap)
   (k:∀h',Va fs [T] s.heap h'->ym T .none h'->Q () {s with heap:=h'}):wpAny M A (setFlight (.ref e) none) Q E s:=by
 obtain⟨ts,ht,h3⟩:=st
 have lt:=(Array.getElem?_eq_some_iff.mp h3).1
 refine wpAny_setFlight_none he rfl h1 ht rfl lt (k _ ⟨λb o _ n q=>?_,λb o _ n q=>⟨o.slots,?_⟩⟩ ⟨_,Heap.get?_update_self _ ht rfl,by simp [lt]⟩)
 all_goals
   rw[Heap.get?_update_other _ _ λz=>n (by simp [z])]
   exact q
end
structure zX (ex:List Addr) (n:Nat) (H H':Hp):Prop where
 ext:∀b∈ex,∃φ,H b=some (.ext φ)
 same:∀b o,b∉ex->H b=some o->H' b=some o
 no:∀b,b < n->H b=none->H' b=none
section
variable {P:Program} {w:World} {fs ex:List Addr} {H H':Hp} {h h':Heap}
theorem zX.out {n:Nat} (t:zX ex n H H') {b:Addr} {o:HO} (q:H b=some o) (hn:∀φ,o≠.ext φ):b∉ex:=λz=>by
 obtain⟨φ,e⟩:=t.ext b z
 rw[q]at e
 cases e
 exact hn φ rfl
theorem zX.out0 {n:Nat} (t:zX ex n H H') {b:Addr} (q:H b=none):b∉ex:=λz=>by
 obtain⟨φ,e⟩:=t.ext b z
 rw[q]at e
 cases e
theorem Un.fly (F:Va fs ex h h') (t:zX ex h.objs.size H H') (th:∀b∈ex,∃o,h'.get? b=some o):Un fs [] H H' h h' where
 keep b o q n hf _:=F.keep b o hf (t.out0 n) q
 slot b o q n hf _:=F.slot b o hf (t.out0 n) q
 free b o q n _:=t.no b (Heap.lt_size q) n
 there b o q _:=by
   by_cases hb:b∈ex
   . exact th b hb
   . by_cases hf:b∈fs
     . obtain⟨sl,r⟩:=F.slot b o hf hb q
       exact⟨_,r⟩
     . exact⟨o,F.keep b o hf hb q⟩
 tups b xs q:=t.same b _ (t.out q (by intro φ z;cases z)) q
 frzs b o u q:=t.same b _ (t.out q (by intro φ z;cases z)) q
 tbls b ps q:=⟨#[],by simpa using t.same b _ (t.out q (by intro φ z;cases z)) q⟩
theorem Q1.fly (ok:Q1 P w H h) (F:Va fs ex h h') (t:zX ex h.objs.size H H') (fr:∀b∈fs,H b=none) (new:∀b o,H' b=some o->(H b=none\/b∈ex)->qB P w H' h' b o):Q1 P w H' h':=λb o q=>by
 by_cases hb:b∈ex
 . exact new b o q (.inr hb)
 cases e:H b with
 | none=>exact new b o q (.inl e)
 | some u=>
   have r:=t.same b u hb e
   rw[q]at r
   cases r
   refine(ok b o e).stay (λc v hc g=>F.keep c v ?_ ?_ g) (λc z=>t.same c _ (t.out z (by intro φ z;cases z)) z) (λc xs z=>t.same c _ (t.out z (by intro φ z;cases z)) z) (λc o z=>t.same c _ (t.out z (by intro φ z;cases z)) z)
   . intro z
     have n:=fr c z
     rcases hc with rfl | hc
     . rw[e]at n;cases n
     . rw[hc]at n;cases n
   . rcases hc with rfl | hc
     . exact hb
     . exact t.out hc (by intro φ z;cases z)
end
end L2
namespace L2
open PySem PySem.Spec PyProof.Rows
def Yd (T:Addr) (fl:Value):HO:=.ext (ym T fl)
theorem JP {P:Program} {w:World} {H:Hp} {h:Heap} {T:Addr} {fl:Value} (x:ym T fl h):qB P w H h T (Yd T fl):=by
 obtain⟨ts,q,z⟩:=x
 exact⟨⟨ts,q,z⟩,⟨_,q⟩,λh1 h2 ⟨ts',q',z'⟩ k=>⟨ts',k _ q',z'⟩⟩
def Jj (P:Program) (w:World):ZI:=λouter H s E e s'=>∃a C dx T Hx H',e=.ref a/\s'.os=s.os/\AllBare s'.gens/\Un (ZO outer) [] H H' s.heap s'.heap/\Q1 P w H' s'.heap/\
 H' a=some (jT a C dx (.ref T))/\H' T=some (Yd T .none)/\Hx T=none/\Hx a=some (QN a C dx)/\(∀b o,b≠a->Hx b=some o->H' b=some o)/\E (.ref C) (some dx) Hx
def Xv (X:Cx) (E:XK):Prop:=∀(pins:List (Addr×Obj)) (σ:St) (H:Hp) (s:Shared) (a C dx:Addr),qr X pins σ H s->H a=some (QN a C dx)->E (.ref C) (some dx) H->X.xe (.ref a) s
section
variable {X:Cx} {pins:List (Addr×Obj)} {σ:St} {H H':Hp} {s:Shared} {h':Heap} {ex:List Addr}
theorem qr.flown (I:qr X pins σ H s) (F:Va (ZO X.stack) ex s.heap h') (t:zX ex s.heap.objs.size H H') (th:∀b∈ex,∃o,h'.get? b=some o)
   (new:∀b o,H' b=some o->(H b=none\/b∈ex)->qB X.prog X.w H' h' b o):qr X pins σ H' {s with heap:=h'}:=
 I.call (g':=s.gens) (t':=s.toks) (d':=s.drawn) (ch:=[]) (Un.fly F t th) (Q1.fly I.hok F t I.stkFree new) I.bare λb z=>absurd z (by simp)
theorem Va.then {fs ex:List Addr} {h h1 h2:Heap} {T:Addr} (F:Va fs ex h h1) (G:Va fs [T] h1 h2) (hT:h.objs.size<=T):Va fs ex h h2 where
 keep b o n1 n2 q:=G.keep b o n1 (by simp;exact Nat.ne_of_lt (Nat.lt_of_lt_of_le (Heap.lt_size q) hT)) (F.keep b o n1 n2 q)
 slot b o n1 n2 q:=by
   obtain⟨sl,r⟩:=F.slot b o n1 n2 q
   obtain⟨sl',r'⟩:=G.slot b _ n1 (by simp;exact Nat.ne_of_lt (Nat.lt_of_lt_of_le (Heap.lt_size q) hT)) r
   exact⟨sl',r'⟩
end
section
variable {P:Program} {w:World} {K:PySem.W.Frag} {mg:Str->Option Value} {base:Heap} {N:List Str} {qual:Str} {scope:Scope} {f:Addr} {cd:Value} {A:Around} {outer:List Env} {s₀:Shared} {H₀:Hp} {E:XK}
theorem Yr:Xv (jL (Jj P w) P w K mg base N qual scope f cd A outer s₀ H₀ E) E:=by
 intro pins σ H s a C dx I ha hE
 obtain⟨⟨fl,he,hz⟩,_,_⟩:=(show qB P w H s.heap a (jT a C dx .none) from I.hok a _ ha)
 have fr:=I.ok.frames
 have ff:=I.stack
 show wpAny _ _ (leaving _ _) _ _ s
 unfold leaving
 refine wpAny_bind (XT fr ff rfl he hz λh1 T hT F q1 q2=>?_)
 have lt:=(Array.getElem?_eq_some_iff.mp hz).1
 have g1:(fl.setIfInBounds 1 (Value.ref T))[1]?=some (.ref T):=by simp [lt]
 have nT:T≠a:=λz=>by
   obtain⟨ts,q,_⟩:=q2
   rw[z,q1]at q
   cases q
 refine QU (fs:=ZO (jL (Jj P w) P w K mg base N qual scope f cd A outer s₀ H₀ E).stack) q1 g1 q2 λh2 F2 st=>?_
 have anf:a∉ZO (jL (Jj P w) P w K mg base N qual scope f cd A outer s₀ H₀ E).stack:=λz=>by
   have:=I.stkFree a z
   rw[ha]at this
   cases this
 have hTn:H T=none:=I.hok.fresh hT
 have q3:=F2.keep a _ anf (by simp [Ne.symm nT]) q1
 have I2:=I.flown (H':=upd (upd H a (jT a C dx (.ref T))) T (Yd T .none)) (Va.then F F2 hT) ⟨λb hb=>by cases List.mem_singleton.mp hb;exact⟨_,ha⟩,λb o hb q=>by
     rw[qg (qm q hTn),qg λz=>hb (by simp [z])];exact q,λb hb q=>by
     rw[qg (Nat.ne_of_lt (Nat.lt_of_lt_of_le hb hT)),qg λz=>by rw[z,ha]at q;cases q];exact q⟩ (λb hb=>by cases List.mem_singleton.mp hb;exact⟨_,q3⟩) λb o q hb=>by
   by_cases e1:b=T
   . subst e1
     rw[qd]at q
     cases q
     exact JP st
   . rw[qg e1]at q
     by_cases e2:b=a
     . subst e2
       rw[qd]at q
       cases q
       exact Jt ⟨_,q3,g1⟩
     . rw[qg e2]at q
       rcases hb with hb | hb
       . rw[q]at hb;cases hb
       . exact absurd (List.mem_singleton.mp hb) e2
 exact⟨a,C,dx,T,H,_,rfl,I2.os,I2.bare,I2.base,I2.hok,by rw[qg (Ne.symm nT),qd],qd ..,hTn,ha,λb o nb q=>by rw[qg (qm q hTn),qg nb];exact q,hE⟩
theorem Uu:jx (Jj P w) (jL (Jj P w) P w K mg base N qual scope f cd A outer s₀ H₀ E) E:=by
 intro pins σ H s e s' I0 hc
 obtain⟨a,C,dx,T,Hx,H1,rfl,os,bare,un,hok,ha,ht,hxT,hxa,hx,hE⟩:=hc
 have I:qr (jL (Jj P w) P w K mg base N qual scope f cd A outer s₀ H₀ E) pins σ H1 s':=I0.call' os un hok bare λb z=>absurd z (by simp)
 obtain⟨⟨fl,he,hz⟩,_,_⟩:=(show qB P w H1 s'.heap a (jT a C dx (.ref T)) from I.hok a _ ha)
 obtain⟨st0,_,_⟩:=(show qB P w H1 s'.heap T (Yd T .none) from I.hok T _ ht)
 have fr:=I.ok.frames
 have ff:=I.stack
 have nT0:T≠a:=λz=>by
   obtain⟨ts,q,_⟩:=st0
   rw[z,he]at q
   cases q
 show wpAny _ _ (leaving _ _) _ _ s'
 unfold leaving
 refine wpAny_bind (Y9 fr ff rfl he hz st0 nT0 λh1 T' hT F tT q1 q2=>?_)
 have lt:=(Array.getElem?_eq_some_iff.mp hz).1
 have g1:(fl.setIfInBounds 1 (Value.ref T'))[1]?=some (.ref T'):=by simp [lt]
 have nT:T'≠a:=λz=>by
   obtain⟨ts,q,_⟩:=q2
   rw[z,q1]at q
   cases q
 refine QU (fs:=ZO (jL (Jj P w) P w K mg base N qual scope f cd A outer s₀ H₀ E).stack) q1 g1 q2 λh2 F2 st=>?_
 have anf:∀b o,H1 b=some o->b∉ZO (jL (Jj P w) P w K mg base N qual scope f cd A outer s₀ H₀ E).stack:=λb o q z=>by
   have:=I.stkFree b z
   rw[q]at this
   cases this
 have hTn:H1 T'=none:=I.hok.fresh hT
 have nTT:T'≠T:=(qm ht hTn).symm
 have q3:=F2.keep a _ (anf a _ ha) (by simp [Ne.symm nT]) q1
 obtain⟨oT,hoT⟩:=tT
 have q4:=F2.keep T _ (anf T _ ht) (by simp [Ne.symm nTT]) hoT
 have I2:=I.flown (H':=upd (upd (upd H1 a (jT a C dx (.ref T'))) T (.ext λh=>∃o,h.get? T=some o)) T' (Yd T' .none)) (Va.then F F2 hT) ⟨λb hb=>by
     simp only[List.mem_cons,List.not_mem_nil,or_false]at hb
     rcases hb with rfl | rfl
     . exact⟨_,ha⟩
     . exact⟨_,ht⟩,λb o hb q=>by
     simp only[List.mem_cons,List.not_mem_nil,or_false,not_or]at hb
     rw[qg (qm q hTn),qg hb.2,qg hb.1];exact q,λb hb q=>by
     rw[qg (Nat.ne_of_lt (Nat.lt_of_lt_of_le hb hT)),qg (λz=>by rw[z,ht]at q;cases q),qg (λz=>by rw[z,ha]at q;cases q)];exact q⟩ (λb hb=>by
     simp only[List.mem_cons,List.not_mem_nil,or_false]at hb
     rcases hb with rfl | rfl
     . exact⟨_,q3⟩
     . exact⟨_,q4⟩) λb o q hb=>by
   by_cases e1:b=T'
   . subst e1
     rw[qd]at q
     cases q
     exact JP st
   . rw[qg e1]at q
     by_cases e2:b=T
     . subst e2
       rw[qd]at q
       cases q
       exact⟨⟨_,q4⟩,⟨_,q4⟩,λh1 h2 ⟨u,z⟩ k=>⟨u,k u z⟩⟩
     . rw[qg e2]at q
       by_cases e3:b=a
       . subst e3
         rw[qd]at q
         cases q
         exact Jt ⟨_,q3,g1⟩
       . rw[qg e3]at q
         rcases hb with hb | hb
         . rw[q]at hb;cases hb
         . simp only[List.mem_cons,List.not_mem_nil,or_false]at hb
           exact(hb.elim e3 e2).elim
 refine⟨a,C,dx,T',Hx,_,rfl,I2.os,I2.bare,I2.base,I2.hok,by rw[qg (Ne.symm nT),qg (Ne.symm nT0),qd],qd ..,?_,hxa,λb o nb q=>?_,hE⟩
 . cases e:Hx T' with
   | none=>rfl
   | some o=>
     have:=hx T' o nT e
     rw[hTn]at this
     cases this
 . have n1:b≠T:=λz=>by rw[z,hxT]at q;cases q
   have q':=hx b o nb q
   rw[qg (qm q' hTn),qg n1,qg nb]
   exact q'
end
end L2
set_option Elab.async false
set_option linter.all false
set_option maxRecDepth 100000
set_option maxHeartbeats 4000000
namespace L2
open PySem PySem.Spec PyProof.Rows
section
variable {M:Model} {A:Around} {E:Value->Shared->Prop} {s:Shared} {env:Env} {C:Addr}
theorem Uq {oC:Obj} {x:Sem Value} {Q:Flow->Shared->Prop} (hh:A.handled=none) (hcl:oC.cls=.type "type")
   (hs:∀(h:Heap) (g d t os) (Q:Bool->Shared->Prop),h.get? C=some oC->Q true ⟨h,g,d,t,os⟩->wpAny M A (isSubtype (.ref C) (.type "BaseException")) Q E ⟨h,g,d,t,os⟩)
   (h:wpAny M A x (λv s₁=>∃e dx fl,v=.ref e/\s₁.heap.get? C=some oC/\s₁.heap.get? e=some {cls:=.ref C,dict:=some dx,data:=.fields fl}/\fl[1]?=some Value.none/\E (.ref e) s₁) E s):
   wpAny M A (raiseStmt env (some x) none) Q E s:=by
 unfold raiseStmt
 refine wpAny_bind (je h λv s₁ h₁=>?_)
 obtain⟨e,dx,fl,rfl,hC,he,hz,hE⟩:=h₁
 obtain⟨hp,g,d,tk,os⟩:=s₁
 repeat (first | with_reducible refine wpAny_loadPart_at he ?_ | with_reducible refine wpAny_loadPart_at hC ?_ | with_reducible refine hs _ _ _ _ _ _ hC ?_ | wp_step)
 rw[hz]
 refine wpAny_pure ?_
 rw[if_neg (show ¬((Value.none != Value.none)=true) by decide)]
 exact wpAny_pure (wpAny_raiseNew_none hh hE)
end
def U5 (K:PySem.W.Frag) (C:Addr):Prop:=∃f bm,Gw K C f bm/\bm.contains (.type "BaseException")=true
def wU (K:PySem.W.Frag) (E:XK) (te:TE):TS:=λD σ H=>te σ H λv H1=>∃a C dx,v=.ref a/\H1 a=some (QN a C dx)/\U5 K C/\E (.ref C) (some dx) H1
section
variable {X:Cx} {E:XK} {e:Expr} {te:TE} {pos:Pos}
theorem kE (hc:X.calm=true) (hx:Xv X E) (he:JE X e te):JS X (.Raise (some e) none pos) (wU X.K E te):=.of (by
 have he:=he.to
 intro pins s σ H D I h
 have key:∀x:Sem Value,wpAny (model X.prog X.w) X.A x (λu s1=>∃v H1,qr X pins σ H1 s1/\qJ v u/\∃a C dx,v=.ref a/\H1 a=some (QN a C dx)/\U5 X.K C/\E (.ref C) (some dx) H1) X.xe s->
     wpAny (model X.prog X.w) X.A (raiseStmt X.env (some x) none) (SP X pins D) X.xe s:=λx hw=>by
   unfold raiseStmt
   refine wpAny_bind (je hw λu s1 ⟨v,H1,I1,rv,a,C,dx,ev,ha,⟨f,bm,em,hb⟩,hE⟩=>?_)
   subst ev
   obtain rfl:u=Value.ref a:=rv
   obtain⟨nm,q,N,bs,hdct,sn,sub,ab,col,dd,k0,k1,k2,k3,k5,hC⟩:=em.obj
   obtain⟨⟨fl,ho,hz⟩,_,_⟩:=(show qB X.prog X.w H1 s1.heap a (jT a C dx .none) from I1.hok a _ ha)
   have hC':=I1.kIn _ _ hC
   have r:=Uq (M:=model X.prog X.w) (A:=X.A) (E:=X.xe) (s:=s1) (env:=X.env) (C:=C) (x:=pure (.ref a)) (Q:=SP X pins D) (I1.ok.hd hc) rfl (λh g d t os Q z k=>wpAny_isSubtype_exc z (by
     rw[show (Value.ref C::bm).contains (.type "BaseException")=true by rw[List.contains_cons,hb,Bool.or_true]];exact k)) (wpAny_pure ⟨a,dx,fl,rfl,hC',ho,hz,hx pins σ H1 s1 a C dx I1 ha hE⟩)
   exact r
 rw[arm_exec_Raise]
 exact wpAny_bind (wpAny_standAt (key _ (wpAny_bind (je (he pins s σ H _ I h) λu s1 q=>wpAny_bind (wpAny_standAt (wpAny_pure q)))))))
end
end L2
set_option Elab.async false
set_option linter.all false
set_option maxRecDepth 100000
set_option maxHeartbeats 4000000
namespace L2
open PySem PySem.Spec PyProof.Rows
section
variable {M:Model} {A:Around} {E:Value->Shared->Prop}
theorem UV {h:Heap} {g:Array GenState} {d:Drawn} {t:Nat} {os:OsState} {e C D:Addr} {oe oC:Obj} {ddc:Option Addr} {sld:Array (Option Value)} {cdd} {bC bD:List Value} {Q:Bool->Shared->Prop}
   (he:h.get? e=some oe) (hcls:oe.cls=.ref C) (hC:h.get? C=some oC) (hD:h.get? D=some ⟨.type "type",ddc,.cls cdd,sld⟩)
   (sC:∀(T:Value) (Q:Bool->Shared->Prop),Q (bC.contains T) ⟨h,g,d,t,os⟩->wpAny M A (isSubtype (.ref C) T) Q E ⟨h,g,d,t,os⟩)
   (sD:∀(T:Value) (Q:Bool->Shared->Prop),Q (bD.contains T) ⟨h,g,d,t,os⟩->wpAny M A (isSubtype (.ref D) T) Q E ⟨h,g,d,t,os⟩)
   (hB:bD.contains (.type "BaseException")=true)
   (hq:Q (bC.contains (.ref D)) ⟨h,g,d,t,os⟩):wpAny M A (excMatches (.ref e) (.ref D)) Q E ⟨h,g,d,t,os⟩:=by
 have f:=tc_notTuple
 unfold excMatches
 repeat (first | (with_reducible refine wpAny_loadPart_at he ?_;rw[hcls]) | with_reducible refine wpAny_loadPart_at hD ?_ | (with_reducible refine sC _ _ ?_) | (with_reducible refine sD _ _ ?_;rw[hB]) | wp_step)
 cases hb:bC.contains (.ref D)<;>(rw[hb]at hq;wp_walk;exact hq)
end
end L2
set_option Elab.async false
set_option linter.all false
set_option maxRecDepth 100000
set_option maxHeartbeats 4000000
namespace L2
open PySem PySem.Spec PyProof.Rows
def QY (CX:ZI) (X:Cx) (E:St->XK):Prop:=∀(pins:List (Addr×Obj)) (σ:St) (H:Hp) (s:Shared) (e:Value) (s':Shared),qr X pins σ H s->CX X.stack H s (E σ) e s'->X.xe e s'
theorem jx.s {CX:ZI} {X:Cx} {E:XK} (h:jx CX X E):QY CX X λ_=>E:=h
def Wx (sp:Sp) (dvs:List V) (E:St->XK) (t:TA):TE:=λσ H Q=>t σ H λvs H1=>sp (vs++dvs) H1 Q (E σ)
section
variable {X:Cx} {CX:ZI} {k:Nat} {f C:Addr} {fd:FuncData} {ps:List Str} {sp:Sp} {dvs:List V} {ds:List Value} {E:St->XK} {x m:Str} {p pos apos:Pos} {e o:Expr} {es:List Expr} {ta:TE} {t:TA}
theorem Vx {pins:List (Addr×Obj)} {σ:St} {H:Hp} {s:Shared} {Q:VK} {us:List Value} {vs:List V} (F:qp X.prog X.w X.K X.mg X.base CX k f fd ps sp) (hr:qY k X.A) (hb:jE X.K fd ps ds) (hd:qC dvs ds) (hx:QY CX X E)
   (I:qr X pins σ H s) (r:qC vs us) (h:sp (vs++dvs) H Q (E σ)):wpAny (model X.prog X.w) X.A (call (.ref f) us) (EP X pins σ Q) X.xe s:=by
 have rr:qC (vs++dvs) (us++ds):=r.append hd
 have ll:(us++ds).length=ps.length:=rr.length.symm.trans (F.len _ _ _ _ h)
 have run:=F.run X.A X.stack s H ⟨us,[]⟩ (us++ds) (vs++dvs) Q (E σ) hr I.env0 (hb s us I.kIn ll) rr h
 refine wpAny_call (codeAny_mono run λz s' q=>?_)
 match z,q with
 | .error y,q=>exact hx pins σ H s y s' I q
 | .ok (.ret u),q=>exact I.after q
theorem vT (F:qp X.prog X.w X.K X.mg X.base CX k f fd ps sp) (hr:qY k X.A) (hg:Gl X x) (hm:X.mg x=some (.ref f)) (hk:PySem.W.keepIn X.K (.ref f)=true) (hb:jE X.K fd ps ds) (hd:qC dvs ds) (hx:QY CX X E)
   (ha:PA X (e::es) t) (hdb:(x==("__debug__":Str))=false:=by decide) (he:starEach (e::es) X.env=(false,eval e X.env)::starEach es X.env:=by rfl) (hpl:(backTo pos (starEach es X.env)).any (·.1)=false:=by rfl):
   PE X (.Call (.Name x p) (e::es) [] pos) (Wx sp dvs E t):=by
 intro pins s σ H Q I h
 refine wpAny_Call_Name_kw (Jq I hg hm (PySem.W.callWith_K (h₀:=X.base) I.ok.mod.kin hk (je (ha pos pins s σ H _ I h) λus s1 ⟨vs,H1,I1,r,q⟩=>⟨I1.kIn,Vx F hr hb hd hx I1 r q⟩) he hpl) hdb)
end
end L2
set_option Elab.async false
set_option linter.all false
set_option maxRecDepth 100000
set_option maxHeartbeats 4000000
namespace L2
open PySem PySem.Spec PyProof.Rows
section
variable {X:Cx} {pins:List (Addr×Obj)} {σ:St} {H:Hp} {s:Shared} {a b:Addr} {kvs more:List (qQ×V)} {A:Around} {E:Value->Shared->Prop}
theorem ye {Q:Value->Shared->Prop} (I:qr X pins σ H s) (e:H a=some (.dK kvs)) (e2:H b=some (.dK more)) (hab:a≠b) (hz:kvs.length+more.length<=sizeLine) (h:∀s',qr X pins σ (upd H a (.dK (jw kvs more))) s'->Q .none s'):
   wpAny (model X.prog X.w) A (call (.builtin "dict.update") [.ref a,.ref b]) Q E s:=by
 obtain⟨z,hd,vs,rel,dd⟩:=VY I.hok e
 obtain⟨z2,hd2,vs2,rel2,dd2⟩:=VY I.hok e2
 refine call_meetsIn PySem.F.slot_dict_update dd.typeIs PySem.F.entry_dict_update (PySem.F.args_dict_update_2 _ _) (meets_dict_update (jh X.prog X.w) a b hab hd2) ⟨vs,vs2,dd,dd2,by rw[<-rel.length,<-rel2.length];exact hz,λh' dd' _ hs=>h _ ?_⟩
 have he:∃q,h'.get? a=some q:=let ⟨q,_,_,hq,_⟩:=dd';⟨q,hq⟩
 exact Z8 (t':=s.toks) I (by rw[e];exact True.intro) hs he (Xn (Nat.le_trans (Qb more kvs) hz) hd (rel2.merge rel) dd')
end
def Kn (td ty:TE):TE:=λσ H Q=>td σ H λx H1=>∃a,x=.ref a/\IsD H1 a/\ty σ H1 λy H2=>∃b kvs more,y=.ref b/\H2 a=some (.dK kvs)/\H2 b=some (.dK more)/\a≠b/\kvs.length+more.length<=sizeLine/\Q .non (upd H2 a (.dK (jw kvs more)))
section
variable {X:Cx} {o e:Expr} {apos cpos:Pos} {td ty:TE}
theorem xJ (ho:JE X o td) (he:JE X e ty) (m:M1 X o "update" apos e cpos):JE X (.Call (.Attribute o "update" apos) [e] [] cpos) (Kn td ty):=.of (by
 have ho:=ho.to
 have he:=he.to
 intro pins s σ H Q I h
 refine wpAny_Call_method m.base m.few m.line PySem.F.plainAttrs_dict PySem.F.slot_dict_update PySem.F.type_dict_update (je (ho pins s σ H _ I h) λu s1 ⟨x,H1,I1,rx,a,ex,d,q1⟩=>?_)
 subst ex
 obtain rfl:u=Value.ref a:=rx
 obtain⟨t1,t2,_⟩:=uH I1 d
 refine⟨t1,t2,?_⟩
 rw[m.trees]
 refine Calls.callWith_builtin rfl (Calls.evalArgs_plain (Calls.spliced_cons (je (he pins s1 σ H1 _ I1 q1) λiv s2 ⟨y,H2,I2,ry,b,kvs,more,ey,ea,eb,hab,hz,q2⟩=>Calls.spliced_nil ?_)))
 subst ey
 obtain rfl:iv=Value.ref b:=ry
 exact ye I2 ea eb hab hz λs3 I3=>⟨.non,_,I3,rfl,q2⟩)
end
theorem K4 {us:List Value} (h:us.length=0):us=[]:=List.eq_nil_of_length_eq_zero h
theorem ky {us:List Value} {n:Nat} (h:us.length=n+1):∃a r,us=a::r/\r.length=n:=by
 cases us with
 | nil=>cases h
 | cons a r=>exact⟨a,r,rfl,Nat.succ.inj h⟩
theorem Zi {us:List Value} (h:us.length=1):∃a,us=[a]:=by
 obtain⟨a,r,rfl,h'⟩:=ky h
 exact⟨a,by rw[K4 h']⟩
theorem Jx {us:List Value} (h:us.length=2):∃a b,us=[a,b]:=by
 obtain⟨a,r,rfl,h'⟩:=ky h
 obtain⟨b,rfl⟩:=Zi h'
 exact⟨a,b,rfl⟩
theorem xD {us:List Value} (h:us.length=3):∃a b c,us=[a,b,c]:=by
 obtain⟨a,r,rfl,h'⟩:=ky h
 obtain⟨b,c,rfl⟩:=Jx h'
 exact⟨a,b,c,rfl⟩
theorem kz {us:List Value} (h:us.length=4):∃a b c d,us=[a,b,c,d]:=by
 obtain⟨a,r,rfl,h'⟩:=ky h
 obtain⟨b,c,d,rfl⟩:=xD h'
 exact⟨a,b,c,d,rfl⟩
theorem K3 {us:List Value} (h:us.length=5):∃a b c d e,us=[a,b,c,d,e]:=by
 obtain⟨a,r,rfl,h'⟩:=ky h
 obtain⟨b,c,d,e,rfl⟩:=kz h'
 exact⟨a,b,c,d,e,rfl⟩
end L2
set_option Elab.async false
set_option linter.all false
set_option maxRecDepth 100000
set_option maxHeartbeats 4000000
namespace L2
open PySem PySem.Spec PyProof.Rows
abbrev Cx.suite (X:Cx) (a:Value) (E:Value->Shared->Prop):Cx:={X with A:=X.A.mark (some a),calm:=false,xe:=E}
abbrev Cx.tried (X:Cx) (pn:List (Addr×Obj)) (E:Value->Shared->Prop):Cx:={X with xe:=E,pn:=pn}
section
variable {X:Cx} {pins:List (Addr×Obj)} {σ:St} {H:Hp} {s:Shared} {E:Value->Shared->Prop} {a:Value}
theorem Cx.Ok.suite (o:X.Ok) (a:Value) (E:Value->Shared->Prop):(X.suite a E).Ok:=⟨o.mod,o.kind,o.glob,o.blt,o.above,o.inj,o.has,o.cab,λz=>Bool.noConfusion z,o.frames,o.stk,o.exf,o.bs,o.bsz,o.noex,o.exfs,o.funs,o.frf⟩
theorem Cx.Ok.tried (o:X.Ok) (pn:List (Addr×Obj)) (E:Value->Shared->Prop):(X.tried pn E).Ok:=⟨o.mod,o.kind,o.glob,o.blt,o.above,o.inj,o.has,o.cab,o.hd,o.frames,o.stk,o.exf,o.bs,o.bsz,o.noex,o.exfs,o.funs,o.frf⟩
theorem qr.suite (I:qr X pins σ H s) (a:Value) (E:Value->Shared->Prop):qr (X.suite a E) pins σ H s:=⟨I.ok.suite a E,I.os,I.bare,I.base,I.loc,I.cell,I.free,I.freeC,I.pin,I.hok,I.len⟩
theorem qr.unsuite {σ0:St} {H0:Hp} {s0:Shared} (I0:qr X pins σ0 H0 s0) (I:qr (X.suite a E) pins σ H s):qr X pins σ H s:=⟨I0.ok,I.os,I.bare,I.base,I.loc,I.cell,I.free,I.freeC,I.pin,I.hok,I.len⟩
theorem qr.tried (I:qr X pins σ H s) (E:Value->Shared->Prop):qr (X.tried (X.pn++pins) E) [] σ H s:=⟨I.ok.tried _ E,I.os,I.bare,I.base,I.loc,I.cell,I.free,I.freeC,λp hp=>I.pin p (by simpa using hp),I.hok,I.len⟩
theorem qr.untried {pins':List (Addr×Obj)} {σ0:St} {H0:Hp} {s0:Shared} (I0:qr X pins σ0 H0 s0) (I:qr (X.tried (X.pn++pins) E) pins' σ H s):qr X pins σ H s:=⟨I0.ok,I.os,I.bare,I.base,I.loc,I.cell,I.free,I.freeC,λp hp=>I.pin p (List.mem_append_left _ hp),I.hok,I.len⟩
theorem Z7 {M:Model} {A:Around} {F:Value->Shared->Prop} {i:Nat} {x:Str} {pos:Pos} {Q:Unit->Shared->Prop} (I:qr X pins σ H s) (hN:X.N.Nodup) (hi:X.N[i]?=some x) (hk:X.env.scope.names.lookup x=some .local)
   (h:∀s',qr X pins (σ.set i none) H s'->Q () s'):wpAny M A (do bindName X.env x .none;unbindBehindTheSuite X.env x pos) Q F s:=by
 obtain⟨m,hn,hl⟩:=id I.loc
 have hcls:(X.env.scope.kind==.class || (X.env.scope.kind==.module&&X.env.locals != X.env.globals))=false:=by rw[I.ok.kind];rfl
 have hiσ:i < σ.length:=by rw[I.len];exact(List.getElem?_eq_some_iff.mp hi).1
 have cne:=I.cne
 have tracked:∀{a:Addr} {h':Heap},(∃o,s.heap.get? a=some o/\H a=none)->Heap.SameBut a s.heap h'->Q1 X.prog X.w H h':=λ{a h'} ha hs b ob e=>by
   obtain⟨_,_,hfree⟩:=ha
   refine(I.hok b ob e).stay (λc w' hc q=>(hs.2 c ?_).trans q) (λ_ q=>q) λ_ _ q=>q
   rintro rfl
   rcases hc with rfl | hc
   . rw[hfree]at e;cases e
   . rw[hfree]at hc;cases hc
 refine wpAny_nameGoes_keeps hk hn hcls λh' v0 hn' hs=>?_
 obtain⟨oL,_,_,hoL,_⟩:=id hn
 refine h _ ⟨I.ok,I.os,I.bare,⟨λb o e n hb hx=>?_,λb o e n hb hx=>?_,I.base.free,λb o e hx=>?_,I.base.tups,I.base.frzs,I.base.tbls⟩,⟨_,hn',λj y v' e1 e2 e3=>?_⟩,λy c e=>?_,I.free,I.freeC,λp hp=>?_,tracked ⟨oL,hoL,I.free⟩ hs,by simpa using I.len⟩
 . exact(hs.2 b (Nat.ne_of_lt (Nat.lt_of_lt_of_le (Heap.lt_size e) I.ok.above))).trans (I.base.keep b o e n hb hx)
 . obtain⟨sl,e1⟩:=I.base.slot b o e n hb hx
   exact⟨sl,(hs.2 b (Nat.ne_of_lt (Nat.lt_of_lt_of_le (Heap.lt_size e) I.ok.above))).trans e1⟩
 . obtain⟨o',e1⟩:=I.base.there b o e hx
   exact⟨o',(hs.2 b (Nat.ne_of_lt (Nat.lt_of_lt_of_le (Heap.lt_size e) I.ok.above))).trans e1⟩
 . by_cases hj:j=i
   . subst hj
     rw[List.getElem?_set_self hiσ]at e2
     cases e2
   . rw[List.getElem?_set_ne (Ne.symm hj)]at e2
     obtain⟨u',r',q⟩:=hl j y v' e1 e2 e3
     refine⟨u',r',?_⟩
     rcases q with ⟨k,e⟩ | ⟨k,c,e,z⟩
     . refine .inl ⟨k,?_⟩
       have:y≠x:=λe=>hj (zA hN e1 (e▸hi))
       simp [this,e]
     . exact .inr ⟨k,c,e,z.sameBut hs (cne y c e)⟩
 . obtain⟨w',z⟩:=I.cell y c e
   exact⟨w',z.sameBut hs (cne y c e)⟩
 . obtain⟨e,n,ne,nf,d⟩:=I.pin p hp
   exact⟨(hs.2 p.1 ne).trans e,n,ne,nf,d⟩
end
abbrev TH:=Addr->Addr->Addr->TS
def PH (X:Cx) (hs:List ExceptHandler) (t:TH):Prop:=
 ∀(pins:List (Addr×Obj)) (s:Shared) (σ:St) (H:Hp) (D:QF) (a C dx T:Addr),qr X pins σ H s->H a=some (jT a C dx (.ref T))->H T=some (Yd T .none)->t C a dx D σ H->
   wpAny (model X.prog X.w) X.A (handleBy (.ref a) X.env hs) (SP X pins D) X.xe s
def kY:TH:=λ_ _ _ _ _ _=>False
theorem UE {X:Cx} {hs:List ExceptHandler}:PH X hs kY:=λ_ _ _ _ _ _ _ _ _ _ _ _ h=>h.elim
def QF.gone (D:QF) (j:Nat):QF:={nx:=λσ H=>D.nx (σ.set j none) H,rt:=D.rt,bk:=λσ H=>D.bk (σ.set j none) H,ct:=λσ H=>D.ct (σ.set j none) H}
def Vj (K:PySem.W.Frag) (Cl:Addr) (j:Nat) (ts:TS) (tr:TH):TH:=λC a dx D σ H=>∃f bm,Gw K C f bm/\
 if (Value.ref C::bm).contains (.ref Cl)=true then ts (D.gone j) (σ.set j (some (.ref a))) H else tr C a dx D σ H
def uY (K:PySem.W.Frag) (C:Addr):Prop:=∃bm,(∃nm q N bs hdct sn sub ab col dd k0 k1 k2 k3 k5,K.lookup C=some (excClassObj nm q C N bs bm hdct sn sub ab col dd k0 k1 k2 k3 k5 "ValueError.__new__"))/\bm.contains (.type "BaseException")=true
theorem U5.c {K:PySem.W.Frag} {C:Addr} (h:U5 K C):uY K C:=let ⟨_,bm,a,b⟩:=h;⟨bm,a.obj,b⟩
theorem W1 {X:Cx} {x n:Str} {p pos:Pos} {j:Nat} {b₀:Stmt} {suite:List Stmt} {rest:List ExceptHandler} {ts:TS} {tr:TH} {Cl:Addr} (hg:Gl X x) (hm:X.mg x=some (.ref Cl)) (hD:uY X.K Cl) (hN:X.N.Nodup) (hj:X.N[j]?=some n)
   (hl:X.env.scope.names.lookup n=some .local) (hs:∀v E,yu (X.suite v E) (b₀::suite) ts) (hr:PH X rest tr) (hdb:(x==("__debug__":Str))=false:=by decide):PH X (.ExceptHandler (some (.Name x p)) (some n) (b₀::suite) pos::rest) (Vj X.K Cl j ts tr):=by
 intro pins s σ H D a C dx T I ha hT h
 obtain⟨f,bm,em,h⟩:=h
 obtain⟨bm',em',hB⟩:=hD
 refine wpAny_handleBy_cons (codeAny_handlers_test ?_) (by intro q;cases q)
 refine wpAny_mono (VE (X:=X.suite (.ref a) _) (v:=.ref Cl) hg hm rfl hdb pins s σ H (λv H'=>v=.ref Cl/\H'=H) (I.suite _ _) ⟨rfl,rfl⟩) (λc s₁ q=>?_) (λ_ _ z=>z)
 obtain⟨v,H',I1,rv,rfl,rfl⟩:=q
 obtain rfl:c=Value.ref Cl:=rv
 have I2:qr X pins σ H' s₁:=I.unsuite I1
 obtain⟨nm,q,N,bs,hdct,sn,sub,ab,col,dd,k0,k1,k2,k3,k5,hC⟩:=em.obj
 obtain⟨nm',q',N',bs',hdct',sn',sub',ab',col',dd',k0',k1',k2',k3',k5',hC'⟩:=em'
 obtain⟨⟨fl,he,hz⟩,_,_⟩:=(show qB X.prog X.w H' s₁.heap a (jT a C dx (.ref T)) from I2.hok a _ ha)
 obtain⟨st,_,_⟩:=(show qB X.prog X.w H' s₁.heap T (Yd T .none) from I2.hok T _ hT)
 have gC:=I2.kIn _ _ hC
 have gD:=I2.kIn _ _ hC'
 obtain⟨hp,g,d,tk,os⟩:=s₁
 refine UV (bC:=Value.ref C::bm) (bD:=Value.ref Cl::bm') he rfl gC gD (λT Q k=>wpAny_isSubtype_exc gC k) (λT Q k=>wpAny_isSubtype_exc gD k) (by rw[List.contains_cons,hB,Bool.or_true]) ?_
 cases hb:(Value.ref C::bm).contains (.ref Cl) with
 | false=>
   rw[hb,if_neg Bool.false_ne_true]at h
   exact hr pins _ σ H' D a C dx T I2 ha hT h
 | true=>
   rw[hb,if_pos rfl]at h
   refine(show codeAny _ _ _ _ _ from codeAny_handlers_suite_as ?_)
   refine QU (fs:=ZO X.stack) he hz st λh' F st'=>?_
   have I3:qr X pins σ H' {heap:=h',gens:=g,drawn:=d,toks:=tk,os:=os}:=I2.flown (H':=H') F ⟨λb hb'=>by cases List.mem_singleton.mp hb';exact⟨_,hT⟩,λb o _ z=>z,λb _ z=>z⟩ (λb hb'=>by cases List.mem_singleton.mp hb';obtain⟨ts',z,_⟩:=st';exact⟨_,z⟩) λb o z hb'=>by
     rcases hb' with hb' | hb'
     . rw[z]at hb';cases hb'
     . cases List.mem_singleton.mp hb'
       rw[hT]at z
       cases z
       exact JP st'
   refine ze I3 hN hj (.inl hl) (v:=.ref a) rfl (λs' I4=>?_) (.inr hl)
   refine wpAny_mono (hs (.ref a) _ pins s' _ H' (D.gone j) (I4.suite _ _) h) (λfl s3 q=>?_) (λ_ _ z=>z)
   cases fl with
   | next=>
     obtain⟨σ3,H3,I5,q⟩:=q
     exact Z7 (I.unsuite I5) hN hj hl λs4 I6=>⟨_,_,I6,q⟩
   | brk=>
     obtain⟨σ3,H3,I5,q⟩:=q
     exact Z7 (I.unsuite I5) hN hj hl λs4 I6=>⟨_,_,I6,q⟩
   | cont=>
     obtain⟨σ3,H3,I5,q⟩:=q
     exact Z7 (I.unsuite I5) hN hj hl λs4 I6=>⟨_,_,I6,q⟩
   | ret u=>
     obtain⟨v,σ3,H3,I5,r,q⟩:=q
     exact Z7 (I.unsuite I5) hN hj hl λs4 I6=>⟨v,_,_,I6,r,q⟩
def KC (tb:(St->XK)->TS) (th:TH):TS:=λD σ H=>∃R:Addr->Addr->Hp->Prop,tb (λσ' c d Hx=>σ'=σ/\∃C dx,c=.ref C/\d=some dx/\R C dx Hx) D σ H/\
 ∀(a C dx T:Addr) (Hx H':Hp),R C dx Hx->Hx a=some (QN a C dx)->(∀b o,b≠a->Hx b=some o->H' b=some o)->H' a=some (jT a C dx (.ref T))->th C a dx D σ H'
theorem yD {X:Cx} {body:List Stmt} {h0:ExceptHandler} {hs:List ExceptHandler} {tb:(St->XK)->TS} {th:TH} {pos:Pos} (hst:X.stack=X.env::X.outer) (hfm:X.env.frame=some X.env.locals)
   (hb:∀(pn:List (Addr×Obj)) (W:Value->Shared->Prop) (E:St->XK),QY (Jj X.prog X.w) (X.tried pn W) E->yu (X.tried pn W) body (tb E)) (hh:PH X (h0::hs) th):PS X (.Try body (h0::hs) [] [] pos) (KC tb th):=by
 intro pins s σ H D I h
 obtain⟨R,hbd,hx⟩:=h
 refine wpAny_Try_except ?_
 refine wpAny_mono (hb (X.pn++pins) (λe s₁=>wpAny (model X.prog X.w) X.A (noteFrame e X.env) (λ_ s₂=>wpAny (model X.prog X.w) X.A (setFlight e none) (λ_ s₃=>wpAny (model X.prog X.w) X.A (handleBy e X.env (h0::hs)) (SP X pins D) X.xe s₃) X.xe s₂) X.xe s₁) _ ?_ [] s σ H D (I.tried _) hbd) (λf s1 q=>?_) (λ_ _ z=>z)
 . intro pins' σ' H1 s1 e s' I1 hc
   obtain⟨a,C,dx,T,Hx,H2,rfl,os,bare,un,hok,ha,ht,hxT,hxa,hxs,rfl,C',dx',eC,eD,hR⟩:=hc
   cases eC
   cases eD
   have I2:qr X pins σ' H2 s':=I.untried (I1.call' os un hok bare λb z=>absurd z (by simp))
   obtain⟨⟨fl,he,hz⟩,_,_⟩:=(show qB X.prog X.w H2 s'.heap a (jT a C dx (.ref T)) from I2.hok a _ ha)
   obtain⟨st0,_,_⟩:=(show qB X.prog X.w H2 s'.heap T (Yd T .none) from I2.hok T _ ht)
   have nT0:T≠a:=λz=>by
     obtain⟨ts,q,_⟩:=st0
     rw[z,he]at q
     cases q
   have fr:=I2.ok.frames
   have ff:=I2.stack
   rw[hst]at fr ff
   refine Y9 fr ff hfm he hz st0 nT0 λh1 T' hT F tT q1 q2=>?_
   have lt:=(Array.getElem?_eq_some_iff.mp hz).1
   have g1:(fl.setIfInBounds 1 (Value.ref T'))[1]?=some (.ref T'):=by simp [lt]
   have nT:T'≠a:=λz=>by
     obtain⟨ts,q,_⟩:=q2
     rw[z,q1]at q
     cases q
   refine QU (fs:=ZO X.stack) q1 g1 q2 λh2 F2 stt=>?_
   have anf:∀b o,H2 b=some o->b∉ZO X.stack:=λb o q z=>by
     have:=I2.stkFree b z
     rw[q]at this
     cases this
   have hTn:H2 T'=none:=I2.hok.fresh hT
   have nTT:T'≠T:=(qm ht hTn).symm
   have q3:=F2.keep a _ (anf a _ ha) (by simp [Ne.symm nT]) q1
   obtain⟨oT,hoT⟩:=tT
   have q4:=F2.keep T _ (anf T _ ht) (by simp [Ne.symm nTT]) hoT
   rw[<-hst]at F
   have I3:=I2.flown (H':=upd (upd (upd H2 a (jT a C dx (.ref T'))) T (.ext λh=>∃o,h.get? T=some o)) T' (Yd T' .none)) (Va.then F F2 hT) ⟨λb hb=>by
       simp only[List.mem_cons,List.not_mem_nil,or_false]at hb
       rcases hb with rfl | rfl
       . exact⟨_,ha⟩
       . exact⟨_,ht⟩,λb o hb q=>by
       simp only[List.mem_cons,List.not_mem_nil,or_false,not_or]at hb
       rw[qg (qm q hTn),qg hb.2,qg hb.1];exact q,λb hb q=>by
       rw[qg (Nat.ne_of_lt (Nat.lt_of_lt_of_le hb hT)),qg (λz=>by rw[z,ht]at q;cases q),qg (λz=>by rw[z,ha]at q;cases q)];exact q⟩ (λb hb=>by
       simp only[List.mem_cons,List.not_mem_nil,or_false]at hb
       rcases hb with rfl | rfl
       . exact⟨_,q3⟩
       . exact⟨_,q4⟩) λb o q hb=>by
     by_cases e1:b=T'
     . subst e1
       rw[qd]at q
       cases q
       exact JP stt
     . rw[qg e1]at q
       by_cases e2:b=T
       . subst e2
         rw[qd]at q
         cases q
         exact⟨⟨_,q4⟩,⟨_,q4⟩,λh1 h2 ⟨u,z⟩ k=>⟨u,k u z⟩⟩
       . rw[qg e2]at q
         by_cases e3:b=a
         . subst e3
           rw[qd]at q
           cases q
           exact Jt ⟨_,q3,g1⟩
         . rw[qg e3]at q
           rcases hb with hb | hb
           . rw[q]at hb;cases hb
           . simp only[List.mem_cons,List.not_mem_nil,or_false]at hb
             exact(hb.elim e3 e2).elim
   have ea:upd (upd (upd H2 a (jT a C dx (.ref T'))) T (.ext λh=>∃o,h.get? T=some o)) T' (Yd T' .none) a=some (jT a C dx (.ref T')):=by rw[qg (Ne.symm nT),qg (Ne.symm nT0),qd]
   refine hh pins _ σ' _ D a C dx T' I3 ea qd (hx a C dx T' Hx _ hR hxa (λb o nb q=>?_) ea)
   have n1:b≠T:=λz=>by rw[z,hxT]at q;cases q
   have q':=hxs b o nb q
   rw[qg (qm q' hTn),qg n1,qg nb]
   exact q'
 . cases f with
   | next=>
     obtain⟨σ',H',I',q⟩:=q
     exact wpAny_execs_nil ⟨σ',H',I.untried I',q⟩
   | brk=>
     obtain⟨σ',H',I',q⟩:=q
     exact⟨σ',H',I.untried I',q⟩
   | cont=>
     obtain⟨σ',H',I',q⟩:=q
     exact⟨σ',H',I.untried I',q⟩
   | ret u=>
     obtain⟨v,σ',H',I',r,q⟩:=q
     exact⟨v,σ',H',I.untried I',r,q⟩
@[irreducible] def JH (X:Cx) (hs:List ExceptHandler) (t:TH):Prop:=PH X hs t
theorem JH.of {X:Cx} {hs:List ExceptHandler} {t:TH} (h:PH X hs t):JH X hs t:=by unfold JH;exact h
theorem JH.to {X:Cx} {hs:List ExceptHandler} {t:TH} (h:JH X hs t):PH X hs t:=by unfold JH at h;exact h
theorem kH {X:Cx} {hs:List ExceptHandler}:JH X hs kY:=.of UE
theorem xG {X:Cx} {x n:Str} {p pos:Pos} {j:Nat} {b₀:Stmt} {suite:List Stmt} {rest:List ExceptHandler} {ts:TS} {tr:TH} {Cl:Addr} (hg:Gl X x) (hm:X.mg x=some (.ref Cl)) (hD:U5 X.K Cl) (hN:X.N.Nodup) (hj:X.N[j]?=some n)
   (hl:X.env.scope.names.lookup n=some .local) (hs:∀v E,z0 (X.suite v E) (b₀::suite) ts) (hr:JH X rest tr) (hdb:(x==("__debug__":Str))=false:=by decide):JH X (.ExceptHandler (some (.Name x p)) (some n) (b₀::suite) pos::rest) (Vj X.K Cl j ts tr):=
 .of (W1 hg hm hD.c hN hj hl (λv E=>(hs v E).to) hr.to hdb)
theorem uB {X:Cx} {body:List Stmt} {h0:ExceptHandler} {hs:List ExceptHandler} {tb:(St->XK)->TS} {th:TH} {pos:Pos} (hst:X.stack=X.env::X.outer) (hfm:X.env.frame=some X.env.locals)
   (hb:∀(pn:List (Addr×Obj)) (W:Value->Shared->Prop) (E:St->XK),QY (Jj X.prog X.w) (X.tried pn W) E->z0 (X.tried pn W) body (tb E)) (hh:JH X (h0::hs) th):JS X (.Try body (h0::hs) [] [] pos) (KC tb th):=
 .of (yD hst hfm (λpn W E h=>(hb pn W E h).to) hh.to)
def wa (K:PySem.W.Frag) (bm:List Value) (ta:TE) (f:Str):TE:=λσ H Q=>ta σ H λx H1=>∃a C dx hd fs v,x=.ref a/\H1 a=some (jT a C dx hd)/\H1 dx=some (.xd fs)/\ZW K C bm/\j9 K C f/\fs.lookup f=some v/\Q v H1
def vM (K:PySem.W.Frag) (bm:List Value):List V->Hp->VK->Prop:=λxs H Q=>∃a C dx hd fs c b,xs=[.ref a,c]/\wD c=true/\H a=some (jT a C dx hd)/\H dx=some (.xd fs)/\ZW K C bm/\PySem.W.kitOne K (.ref C) (xV c)=some b/\Q (.bl b) H
section
variable {X:Cx} {f:Str} {e:Expr} {pos:Pos} {ta:TE} {bm:List Value}
theorem xI (he:JE X e ta) (hb:attributeBase e f X.env (eval e X.env)=eval e X.env):JE X (.Attribute e f pos) (wa X.K bm ta f):=.of (by
 have he:=he.to
 intro pins s σ H Q I h
 refine V5 hb (je (he pins s σ H _ I h) λu s1 z=>?_)
 obtain⟨x,H1,I1,rx,a,C,dx,hd,fs,v,ex,ea,ed,c,n,l,q⟩:=z
 subst ex
 obtain rfl:u=Value.ref a:=rx
 exact UT I1 ea ed c n l λu' s2 I2 ru=>⟨v,H1,I2,ru,q⟩)
theorem Wj (hn:PySem.W.specialIn X.K (.builtin "object.__class__") "__get__"=some (some (.builtin "getset_descriptor.__get__"))) (htk:PySem.W.takesIn X.K (.builtin "object.__class__")=some true):j8 X (.builtin "isinstance") (vM X.K bm):=by
 intro pins s σ H xs us Q I r h
 obtain⟨a,C,dx,hd,fs,c,b,rfl,hc,ha,hdx,ec,ek,q⟩:=h
 obtain⟨u,w',rfl,ru,rw'⟩:=Ve r
 have ew:w'=xV c:=by
   cases c with
   | ty n=>exact rw'
   | ref z=>exact rw'
   | _=>cases hc
 subst ew
 cases ru
 exact kQ I ha hdx ec hn htk ek λtk=>⟨.bl b,H,I.tok tk,rfl,q⟩
theorem qp.cx {P:Program} {w:World} {K:PySem.W.Frag} {mg:Str->Option Value} {base:Heap} {CX:ZI} {k:Nat} {f:Addr} {fd:FuncData} {ps:List Str} {sp:Sp} (F:qp P w K mg base q5 k f fd ps sp):qp P w K mg base CX k f fd ps sp:=
 ⟨F.len,λA outer s H args us vs Q E hr he hb hv hs=>codeAny_mono (F.run A outer s H args us vs Q E hr he hb hv hs) λr s' q=>by
   match r,q with
   | .ok (.ret u),q=>exact q
   | .ok .next,q=>exact q
   | .ok .brk,q=>exact q
   | .ok .cont,q=>exact q
   | .error e,q=>exact q.elim⟩
end
end L2
set_option Elab.async false
set_option linter.all false
set_option maxRecDepth 100000
set_option maxHeartbeats 4000000
namespace PySem
open PySem.Spec
namespace F
theorem plain_dupd_loop:plainId "dict.update.loop"=true:=by decide+kernel
theorem entry_dupd_loop:entryFor table "dict.update.loop"=some Builtin.«dict.update.loop»:=entryFor_of_fast (by kernel_rfl)
end F
theorem Heap.DictOf.keepsAt {prog:Program} {w:World} {κ:Type} [DecidableEq κ] {knd:KeyKind prog w κ} {h h':Heap} {a:Addr} {kvs:List (κ×Value)} (hm:h.DictOf knd a kvs) (k:∀o,h.get? a=some o->h'.get? a=some o):h'.DictOf knd a kvs:=
 let ⟨o,es,ep,ho,r⟩:=hm;⟨o,es,ep,k o ho,r⟩
section
variable {prog:Program} {w:World} {A:Around} {R:Result->Shared->Prop} {I:Addr} {fp wr:List Addr} {n:Nat} {P:Nat->Value->Prop} {St:Nat->Heap->Prop} {κ:Type} [DecidableEq κ] {knd:KeyKind prog w κ}
def uS (knd:KeyKind prog w κ) (h:Heap) (wr:List Addr) (d:Addr) (v:Value) (kv:κ×Value):Prop:=∃p o c k,v=.ref p/\h.get? p=some o/\o.cls=.type "tuple"/\o.data=.seq #[k,kv.2] c/\knd.is kv.1 k=true/\p∉wr/\p≠d
theorem Zp (W:Walks prog w A.in1 I fp wr n P St) (kv:Nat->κ×Value) (d:Addr) (hdf:d∉fp) (hn:n<=1000):
   ∀(k i:Nat) (s:Shared) (t:Tok) (kvs:List (κ×Value)),n - i=k->i<=n->St i s.heap->s.heap.DictOf knd d kvs->kvs.length<=i->(∀j v,P j v->uS knd s.heap wr d v (kv j))->
   (∀h' tk,h'.DictOf knd d (merged kvs (((List.range n).drop i).map kv))->(∀b o,b∉wr->b≠d->s.heap.get? b=some o->h'.get? b=some o)->R (.ok (.ret .none)) {s with heap:=h',toks:=tk})->
   codeAny (model prog w) A (.builtin "dict.update.loop" ⟨[.ref d,.ref I,.int i t,.none],[]⟩) R s:=by
 have hdw:d∉wr:=λh=>hdf (W.sub _ h)
 intro k
 induction k with
 | zero=>
   intro i s t kvs hk hi hst hd hl hp hR
   have hin:i=n:=by omega
   subst hin
   refine codeAny_builtin F.entry_dupd_loop ?_
   rw[Around.under_plainId F.plain_dupd_loop _]
   show wpAny _ A.in1 (pyNext (.ref I) >>= _) _ _ s
   refine wpAny_bind (W.done s _ _ hst λh' tk hk'=>?_)
   show wpAny _ A.in1 (Builtin.Dict.addKeywords d [] >>= _) _ _ _
   refine wpAny_bind (wpAny_pure (wpAny_pure (hR h' tk ?_ λb o hb _ e=>hk' b o hb e)))
   rw[List.drop_of_length_le (by simp)]
   exact hd.keepsAt λo e=>hk' d o hdw e
 | succ k ih=>
   intro i s t kvs hk hi hst hd hl hp hR
   have hlt:i < n:=by omega
   refine codeAny_builtin F.entry_dupd_loop ?_
   rw[Around.under_plainId F.plain_dupd_loop _]
   show wpAny _ A.in1 (pyNext (.ref I) >>= _) _ _ s
   refine wpAny_bind (W.item i s _ _ hlt hst λv h' tk hP hst' hk'=>?_)
   obtain⟨p,o,c,key,rfl,ho,hc,hdat,hkey,hpw,hpd⟩:=hp i v hP
   have ho':=hk' p o hpw ho
   have hd':h'.DictOf knd d kvs:=hd.keepsAt λo e=>hk' d o hdw e
   have ty:(⟨h',s.gens,s.drawn,tk,s.os⟩:Shared).TypeIs (.ref p) "tuple":=⟨o,ho',hc⟩
   refine wpAny_bind (wpAny_holding (wpAny_bind (wpAny_tryCatch ?_)))
   unfold Builtin.Dict.pairItems
   refine wpAny_bind (wpAny_typeOf ty ?_)
   rw[if_pos (by decide)]
   refine wpAny_bind (wpAny_seqItems ho' hdat (wpAny_pure ?_))
   refine(show wpAny _ _ (holding [key,(kv i).2] (dictSet d key (kv i).2)) _ _ _ from wpAny_holding (wpAny_dictSet_pairs hkey hd' (λh'' dd hs=>?_) (by rw[sizeLine_eq];omega)))
   refine wpAny_pure ⟨plainId_quiet F.plain_dupd_loop _,?_⟩
   have keep:∀b o,b∉wr->b≠d->s.heap.get? b=some o->h''.get? b=some o:=λb o hb hbd e=>(hs.2 b hbd).trans (hk' b o hb e)
   have len:(stored kvs (kv i).1 (kv i).2).length<=i+1:=by
     have:=stored_length_le kvs (kv i).1 (kv i).2
     omega
   refine ih (i+1) _ _ (stored kvs (kv i).1 (kv i).2) (by omega) hlt (W.frame _ _ _ hst' λb hb o e=>(hs.2 b (λz=>hdf (z▸hb))).trans e) dd len (λj v hj=>?_) λh3 tk3 d3 k3=>?_
   . obtain⟨p,o,c,k,e1,e2,r⟩:=hp j v hj
     exact⟨p,o,c,k,e1,keep p o r.2.2.2.1 r.2.2.2.2 e2,r⟩
   . refine hR h3 tk3 ?_ λb o hb hbd e=>k3 b o hb hbd (keep b o hb hbd e)
     have e:(List.range n).drop i=i::(List.range n).drop (i+1):=by
       rw[List.drop_eq_getElem_cons (by simpa using hlt)]
       simp
     rw[e]
     exact d3
end
section
variable {prog:Program} {w:World} {A:Around} {E:Value->Shared->Prop} {s:Shared} {κ:Type} [DecidableEq κ] {knd:KeyKind prog w κ}
theorem Xa:typeLookup (.type "list") "keys"=pure none:=by rw[typeLookup_type,builtinLookup_eq_fast];kernel_rfl
theorem Xc {a:Addr} {o:Obj} {xs:Array Value} {k:Nat} {Q:Option Value->Shared->Prop} (hx:s.heap.get? a=some o) (hc:o.cls=.type "list") (hdat:o.data=.seq xs k) (hd:o.dict=none) (hA:A.handled=none)
   (h:∀h' tk,(∀b o,s.heap.get? b=some o->h'.get? b=some o)->Q none {s with heap:=h',toks:=tk}):wpAny (model prog w) A (getAttr? (.ref a) "keys") Q E s:=by
 obtain⟨c,dct,dat,sl⟩:=o
 simp only at hc hdat hd
 subst hc hdat hd
 obtain⟨hp,g,d,tk,os⟩:=s
 have hT:∀tk',(⟨hp,g,d,tk',os⟩:Shared).TypeIs (.ref a) "list":=λ_=>⟨_,hx,rfl⟩
 have f1:=sub_AttributeError
 have f3:=F.slot_list_getattribute.lookup
 have f4:=F.slot_list_getattribute.bind (.ref a)
 have f5:=am_list_getattr_none
 unfold getAttr? getAttrBy? getAttrBy
 repeat (any_goals (first | assumption | exact hT _ | ((with_reducible show wpAny _ _ (call (Value.builtin "list.__getattribute__") _ _) _ _ _);refine call_meets F.slot_list_getattribute (hT _) am_entry_list_getattribute (F.args_list_getattribute_2 _ _) (meets_getattribute_miss_list a xs k sl "keys" _ Xa (by decide+kernel)) ⟨hx,hA,λh' tk' e hx'=>?_⟩) | wp_step))
 obtain⟨t',u',he⟩:=hx'.there
 show wpAny _ _ (getattributeRaised _ _ _ _ _ _ _) _ _ _
 unfold getattributeRaised
 repeat (any_goals (first | assumption | wp_step))
 exact h _ _ hx'.of.keeps
theorem ZV {src:Addr} {items:Array Value} {kv:Nat->κ×Value} {Q:Value->Shared->Prop} (pl:PlainL s.heap src items) (hp:∀j v,items[j]?=some v->∃p o c key,v=.ref p/\s.heap.get? p=some o/\o.cls=.type "tuple"/\o.data=.seq #[key,(kv j).2] c/\knd.is (kv j).1 key=true)
   (hn:items.size<=1000) (hA:A.handled=none)
   (h:∀h' tk,h'.DictOf knd s.heap.objs.size (merged [] ((List.range items.size).map kv))->(∀b o,s.heap.get? b=some o->h'.get? b=some o)->Q (.ref s.heap.objs.size) {s with heap:=h',toks:=tk}):
   wpAny (model prog w) A (call (.type "dict") [.ref src]) Q E s:=by
 refine callType_codes (Q₁:=λobj s₁=>obj=.ref s.heap.objs.size/\s₁={s with heap:=s.heap.push {cls:=.type "dict",data:=.dict #[]}}) F.kt_called_dict (F.kt_typeCall_dict_1 _) F.entry_dict_init (kt_code_dict_new _ ⟨rfl,rfl⟩) ?_
 rintro obj s₁ ⟨rfl,rfl⟩
 have hnew:(s.heap.push {cls:=.type "dict",data:=.dict #[]}).DictOf knd s.heap.objs.size []:=Heap.DictOf.new s.heap
 have hp0:∀b o,s.heap.get? b=some o->(s.heap.push {cls:=.type "dict",data:=.dict #[]}).get? b=some o:=λb o e=>Heap.get?_push_of_some _ e
 obtain⟨ol,nl,ho,hc,hd,hdat⟩:=id pl
 have ty:(⟨s.heap.push {cls:=.type "dict",data:=.dict #[]},s.gens,s.drawn,s.toks,s.os⟩:Shared).TypeIs (.ref src) "list":=⟨ol,hp0 _ _ ho,hc⟩
 refine⟨hnew.typeIs,F.args_dict_init_2 _ _,?_⟩
 unfold Builtin.«dict.__init__»
 refine wpAny_bind ?_
 unfold Builtin.Dict.selfAndRest
 refine wpAny_bind (wpAny_notOrdered_dict hnew.typeIs ?_)
 show wpAny _ _ (pure (s.heap.objs.size,[Value.ref src])) _ _ _
 refine wpAny_pure ?_
 show wpAny _ _ (Builtin.Dict.updateFrom "dict.__init__" s.heap.objs.size (.ref src) [] .none) _ _ _
 unfold Builtin.Dict.updateFrom
 refine wpAny_bind (wpAny_typeOf ty ?_)
 rw[if_pos (by decide)]
 refine wpAny_bind (Xc (hp0 _ _ ho) hc hdat hd hA λh1 tk1 k1=>?_)
 rw[if_pos (show (none:Option Value).isNone=true from rfl)]
 refine wpAny_bind (wpAny_rule ?_)
 have pl1:PlainL h1 src items:=⟨ol,nl,k1 _ _ (hp0 _ _ ho),hc,hd,hdat⟩
 have hlt:src < h1.objs.size:=Heap.lt_size (k1 _ _ (hp0 _ _ ho))
 have hnew1:h1.DictOf knd s.heap.objs.size []:=hnew.keepsAt λo e=>k1 _ o e
 have hld:s.heap.objs.size < h1.objs.size:=by
   obtain⟨o,_,_,e,_⟩:=hnew1
   exact Heap.lt_size e
 refine wpAny_bind (wpAny_pyIter_list pl1.isList ?_)
 refine wpAny_pure ⟨plainId_quiet F.plain_dupd_loop _,?_⟩
 have W:=Walks.list (prog:=prog) (w:=w) (A:=A.in1.in1) hA h1.objs.size src (Nat.ne_of_lt hlt) items
 have nsrc:s.heap.objs.size≠src:=Ne.symm (Nat.ne_of_lt (Heap.lt_size ho))
 refine Zp (A:=A.in1) W kv s.heap.objs.size (by simp only[List.mem_cons,List.mem_nil_iff,or_false,not_or];exact⟨Nat.ne_of_lt hld,nsrc⟩) hn items.size 0 _ _ [] (by omega) (Nat.zero_le _)
   ⟨⟨_,Heap.get?_push_size _ rfl,rfl,rfl⟩,pl1.isList.at λo e=>Heap.get?_push_of_some _ e⟩ (hnew1.push _) (Nat.zero_le _) (λj v hj=>?_) λh2 tk2 d2 k2=>⟨rfl,h h2 tk2 d2 λb o e=>?_⟩
 . obtain⟨p,o,c,key,e1,e2,e3,e4,e5⟩:=hp j v hj
   have e2':=k1 _ _ (hp0 _ _ e2)
   refine⟨p,o,c,key,e1,Heap.get?_push_of_some _ e2',e3,e4,e5,?_,Nat.ne_of_lt (Heap.lt_size e2)⟩
   simp only[List.mem_cons,List.mem_nil_iff,or_false]
   exact Nat.ne_of_lt (Heap.lt_size e2')
 . have e':=k1 _ _ (hp0 _ _ e)
   refine k2 b o ?_ (Nat.ne_of_lt (Heap.lt_size e)) (Heap.get?_push_of_some _ e')
   simp only[List.mem_cons,List.mem_nil_iff,or_false]
   exact Nat.ne_of_lt (Heap.lt_size e')
end
end PySem
namespace L2
open PySem PySem.Spec PyProof.Rows
section
variable {X:Cx} {pins:List (Addr×Obj)} {σ:St} {H:Hp} {s:Shared}
def wW (K:PySem.W.Frag):List V->Hp->VK->Prop:=λxs H Q=>∃(p:Addr) (ps:List Addr) (kvs:List (qQ×V)),xs=[.ref p]/\SqL K H p (ps.map V.ref)/\ps.length=kvs.length/\(∀(i:Nat) (a:Addr) (kv:qQ×V),ps[i]?=some a->kvs[i]?=some kv->SqT K H a [kV kv.1,kv.2])/\kvs.length<=1000/\
 ∀d,H d=none->Q (.ref d) (upd H d (.dK (jw [] kvs)))
theorem zu (I:qr X pins σ H s):∀(ps:List Addr) (kvs:List (qQ×V)),ps.length=kvs.length->(∀(i:Nat) (a:Addr) (kv:qQ×V),ps[i]?=some a->kvs[i]?=some kv->SqT X.K H a [kV kv.1,kv.2])->
   ∃rs:List (qQ×Value),KV kvs rs/\rs.length=ps.length/\∀(i:Nat) (a:Addr),ps[i]?=some a->∃kv o c key,rs[i]?=some kv/\s.heap.get? a=some o/\o.cls=.type "tuple"/\o.data=.seq #[key,kv.2] c/\(jh X.prog X.w).is kv.1 key=true
 | [],[],_,_=>⟨[],.nil,rfl,λi a e=>by simp at e⟩
 | [],_::_,h,_=>by cases h
 | _::_,[],h,_=>by cases h
 | a::ps,kv::kvs,h,k=>by
   obtain⟨rs,r1,r2,r3⟩:=zu I ps kvs (Nat.succ.inj h) λi a' kv' e1 e2=>k (i+1) a' kv' (by simpa using e1) (by simpa using e2)
   obtain⟨its,rv,⟨o,e,c1,n1,d1⟩,_⟩:=I.tuple (k 0 a kv rfl rfl)
   cases rv with
   | cons ra rt=>
     cases rt with
     | cons rb rn=>
       cases rn
       rename_i u1 u2
       refine⟨(kv.1,u2)::rs,.cons ⟨rfl,rb⟩ r1,by simp [r2],λi a' e'=>?_⟩
       cases i with
       | zero=>
         cases e'
         exact⟨_,o,n1,u1,rfl,e,c1,d1,zG ra⟩
       | succ i=>exact r3 i a' (by simpa using e')
theorem W3 (hc:X.calm=true):j8 X (.type "dict") (wW X.K):=by
 intro pins s σ H xs us Q I r h
 obtain⟨p,ps,kvs,rfl,hl,le,hps,hz,q⟩:=h
 obtain⟨u,rfl,ru⟩:=Qu r
 cases ru
 obtain⟨its,rv,pl,_⟩:=I.list hl
 obtain rfl:=Yi rv
 obtain⟨rs,r1,r2,r3⟩:=zu I ps kvs le hps
 have hsz:(ps.map Value.ref).toArray.size=rs.length:=by simp [r2]
 have hR:(List.range (ps.map Value.ref).toArray.size).map (λj=>(rs[j]?).getD (Sum.inl 0,Value.none))=rs:=by
   rw[hsz]
   refine List.ext_getElem? λi=>?_
   rw[List.getElem?_map]
   by_cases hi:i < rs.length
   . rw[List.getElem?_range hi,List.getElem?_eq_getElem hi]
     simp [hi]
   . rw[List.getElem?_eq_none (by rw[List.length_range];omega),List.getElem?_eq_none (by omega)]
     rfl
 refine ZV (knd:=jh X.prog X.w) (kv:=λj=>(rs[j]?).getD (Sum.inl 0,Value.none)) pl (λj v hj=>?_) (by rw[hsz,r2,le];exact hz) (I.ok.hd hc) λh' tk dd kp=>?_
 . have hj':(ps.map Value.ref)[j]?=some v:=by simpa using hj
   rw[List.getElem?_map]at hj'
   cases e:ps[j]? with
   | none=>rw[e]at hj';cases hj'
   | some a=>
     rw[e]at hj'
     obtain⟨kv,o,c,key,f1,f2,f3,f4,f5⟩:=r3 j a e
     refine⟨a,o,c,key,(Option.some.inj hj').symm,f2,f3,?_,?_⟩
     . show o.data=.seq #[key,((rs[j]?).getD (Sum.inl 0,Value.none)).2] c
       rw[f1]
       exact f4
     . show (jh X.prog X.w).is ((rs[j]?).getD (Sum.inl 0,Value.none)).1 key=true
       rw[f1]
       exact f5
 . rw[hR]at dd
   have hn:=I.hok.fresh (Nat.le_refl s.heap.objs.size)
   have big:(s.heap.objs.size==sysModules)=false:=beq_eq_false_iff_ne.mpr (Ne.symm (Nat.ne_of_lt I.big))
   have hlen:(jw [] kvs).length<=sizeLine:=by
     have:=Qb kvs []
     rw[List.length_nil]at this
     rw[sizeLine_eq]
     omega
   exact⟨.ref s.heap.objs.size,_,I.laid (a:=s.heap.objs.size) (o:=.dK (jw [] kvs)) (h':=h') (t':=tk) kp (Nat.le_refl _) (Xn hlen big (r1.merge .nil) dd),rfl,q _ hn⟩
end
end L2
set_option Elab.async false
set_option linter.all false
set_option maxRecDepth 100000
set_option maxHeartbeats 4000000
namespace L2
open PySem PySem.Spec PyProof.Rows
section
variable {P:Program} {w:World} {K:PySem.W.Frag} {mg:Str->Option Value} {base:Heap}
theorem Qa.okX {CX:ZI} {x qual:Str} {st:Stmt} {f:Addr} {fd:FuncData} {N ps:List Str} {k:Nat} {sp:Sp} (F:Qa K x qual st f fd) (S:qA N ps (qi st)) (len:∀vs H Q E,sp vs H Q E->vs.length=ps.length)
   (hbody:∀(cdv:Value) (A:Around) (outer:List Env) (s:Shared) (H:Hp) (vs:List V) (Q:VK) (E:XK),qY k (A.deeper (envOfC qual (qi st) s.heap.objs.size f cdv))->sp vs H Q E->
     ∃t,z0 (jL CX P w K mg base N qual (qi st) f cdv A outer s H E) (ja st) t/\t {nx:=λ_ H'=>Q .non H',rt:=Q} (jU N vs) H):qp P w K mg base CX (k+1) f fd ps sp:=by
 obtain⟨oc,od,kV,doc,pm,an,cdv,ct,osl,rfl,lk,hcd⟩:=F.ex
 refine wF lk hcd S len λA outer s H vs Q E hr hsp=>?_
 obtain⟨t,h,q⟩:=hbody cdv A outer s H vs Q E hr hsp
 exact⟨t,h.to,q⟩
end
mutual
theorem DV.noDict {K:PySem.W.Frag} {H:Hp}:∀{x:V} {d:PyData},DV K H x d->d.hasDict=false
 | _,_,.non=>rfl
 | _,_,.bl b=>rfl
 | _,_,.int i=>rfl
 | _,_,.str x=>rfl
 | _,_,.lst h hs=>DVs.noDict hs
 | _,_,.tup h hs=>DVs.noDict hs
theorem DVs.noDict {K:PySem.W.Frag} {H:Hp}:∀{xs:List V} {ds:List PyData},DVs K H xs ds->PyData.hasDictAll ds=false
 | _,_,.nil=>rfl
 | _,_,.cons h hs=>by rw[PyData.hasDictAll,DV.noDict h,DVs.noDict hs];rfl
end
section
variable {X:Cx} {es:List Expr} {t:TA} {pos:Pos}
end
end L2
set_option Elab.async false
set_option linter.all false
set_option maxRecDepth 100000
set_option maxHeartbeats 4000000
namespace L2
open PySem PySem.Spec PyProof.Rows
section
variable {X:Cx}
def Rs (K:PySem.W.Frag) (neg:Bool):R2:=λx y H Q=>∃d ds,DV K H x d/\DV K H y (.list ds)/\d.canLay0=true/\PyData.canLayAll0 ds=true/\d.depth<=40/\Q (.bl (if neg then !(ds.any λz=>PyData.eqv z d) else ds.any λz=>PyData.eqv z d)) H
theorem uc (hu:X.A.units+64 < cLine):ZH X (compareOp .In) (Rs X.K false):=by
 intro pins s σ H x y v u Q I rx ry h
 obtain⟨d,ds,h1,h2,c1,c2,dp,q⟩:=h
 obtain⟨as,ra⟩:=h1.reads I rx
 obtain⟨bs,rb⟩:=h2.reads I ry
 refine SeqAt.in_list_reads rb ra c2 c1 ?_ ⟨.bl _,H,I,rfl,q⟩
 have:=Nat.min_le_right (PyData.depthAll ds) d.depth
 omega
end
end L2
namespace L2
open PySem PySem.Spec PyProof.Rows
end L2
set_option Elab.async false
set_option linter.all false
set_option maxRecDepth 100000
set_option maxHeartbeats 4000000
namespace L2
open PySem PySem.Spec PySem.W PyProof.Rows
section
variable {α β:Type} {lt:Nat->Nat->Bool} {n:Nat}
def evT (lt:Nat->Nat->Bool):KasT α->α
 | .ret a=>a
 | .ask i j k=>evT lt (k (lt i j))
end
def ltS (zs:List Str) (i j:Nat):Bool:=decide ((zs.getD i "").cps.toList < (zs.getD j "").cps.toList)
def srt (zs:List Str):List Nat:=if zs.length < 2 then List.range zs.length else (evT (ltS zs) (kas_sort zs.length)).toList
section
variable {P:Program} {w:World} {B:Around} {F:Value->Shared->Prop} {z:Shared}
end
section
variable {X:Cx} {o:Expr} {td:TE} {p1 p2 pos1 pos2 ap cp:Pos}
end
section
variable {X:Cx}
end
end L2
set_option Elab.async false
set_option linter.all false
set_option maxRecDepth 100000
set_option maxHeartbeats 4000000
namespace L2
open PySem PySem.Spec PySem.W PyProof.Rows
section
variable {X:Cx}
def KF (K:PySem.W.Frag):R2:=λx y H Q=>∃(a b:Addr) (xs:List V),x=.ref a/\y=.ref b/\SqL K H a xs/\SqL K H b []/\Q (.bl (!xs.isEmpty)) H
theorem xi (hu:X.A.units < cLine):ZH X (compareOp .NotEq) (KF X.K):=by
 intro pins s σ H x y v u Q I rx ry h
 obtain⟨a,b,xs,rfl,rfl,ha,hb,q⟩:=h
 cases rx
 cases ry
 obtain⟨its,rv,pl,_⟩:=I.list ha
 obtain⟨its2,rv2,pl2,_⟩:=I.list hb
 have l2:its2=[]:=List.eq_nil_of_length_eq_zero rv2.length.symm
 subst l2
 cases xs with
 | nil=>
   have l1:its=[]:=List.eq_nil_of_length_eq_zero rv.length.symm
   subst l1
   exact EqBoolInt.of_rcne (SeqAt.RcNeAt.lists (e:=λ_=>true) pl.isList pl2.isList rfl hu λj h1 h2=>absurd h1 (Nat.not_lt_zero j)) ⟨.bl _,H,I,rfl,q⟩
 | cons x xs=>
   cases its with
   | nil=>cases rv
   | cons u' us'=>exact EqBoolInt.of_rcne (SeqAt.RcNeAt.lists_lengths pl.isList pl2.isList (by simp) hu) ⟨.bl true,H,I,rfl,q⟩
end
end L2
set_option Elab.async false
set_option linter.all false
set_option maxRecDepth 100000
set_option maxHeartbeats 4000000
namespace L2
open PySem PySem.Spec PySem.W PyProof.Rows
section
variable {P:Program} {w:World} {B:Around} {F:Value->Shared->Prop} {z:Shared}
end
section
variable {X:Cx}
end
end L2
set_option Elab.async false
set_option linter.all false
set_option maxRecDepth 100000
set_option maxHeartbeats 4000000
namespace L2
open PySem PySem.Spec PySem.W PyProof.Rows
section
variable {prog:Program} {w:World} {A:Around} {R:Result->Shared->Prop} {I:Addr} {fp wr:List Addr} {G:Array GenState->Array GenState->Prop} {n:Nat} {P:Nat->Value->Prop} {St:Nat->Shared->Prop}
end
section
variable {prog:Program} {w:World} {A:Around} {E:Value->Shared->Prop} {s:Shared}
end
section
variable {X:Cx} {e:Expr} {te:TE} {p1 p2 pos1 pos2:Pos}
end
end L2
set_option Elab.async false
set_option linter.all false
set_option maxRecDepth 100000
set_option maxHeartbeats 4000000
namespace L2
open PySem PyProof.Rows
end L2
set_option Elab.async false
set_option linter.all false
set_option maxRecDepth 100000
set_option maxHeartbeats 4000000
namespace L2
open PySem PyProof.Rows
section
variable {prog:Program} {w:World} {KK:Type} [DecidableEq KK] {kd:HeapKind prog w KK} {A:Around} {E:Value->Shared->Prop} {s:Shared}
end
section
variable {X:Cx} {pins:List (Addr×Obj)} {σ:St} {H:Hp} {s:Shared} {a b:Addr} {v:V} {r:Value} {A:Around} {E:Value->Shared->Prop}
end
section
variable {X:Cx} {o e f:Expr} {apos cpos:Pos} {td ty tx:TE}
end
end L2
set_option Elab.async false
set_option linter.all false
set_option maxRecDepth 100000
set_option maxHeartbeats 4000000
namespace L2
open PySem PyProof.Rows
section
variable {X:Cx}
end
end L2
set_option Elab.async false
set_option linter.all false
set_option maxRecDepth 100000
set_option maxHeartbeats 4000000
namespace L2
open PySem PySem.Spec PyProof.Rows
section
variable {X:Cx} {pins:List (Addr×Obj)} {σ:St} {H:Hp} {s:Shared} {tg:Expr}
end
section
variable {a:Addr} {o:Obj} {kvs:List (qQ×V)} {zs:List Str} {g:TG} {σ:St} {H:Hp}
end
end L2
set_option Elab.async false
set_option linter.all false
set_option maxRecDepth 100000
set_option maxHeartbeats 4000000
namespace L2
open PySem PySem.Spec PyProof.Rows
section
variable {X:Cx} {pins pins0:List (Addr×Obj)} {σ σ0:St} {H H0:Hp} {s s0:Shared}
end
section
variable {X:Cx}
end
end L2
namespace L2
open PySem PyProof.Rows
end L2
set_option Elab.async false
set_option linter.all false
set_option maxRecDepth 100000
set_option maxHeartbeats 4000000
namespace HT
open PySem PySem.Spec PyProof.Rows
section
variable {prog:Program} {w:World} {A:Around} {E:Value->Shared->Prop} {s:Shared}
end
end HT
namespace L2
open PySem PySem.Spec PyProof.Rows
section
variable {X:Cx}
end
end L2
namespace L2
open PySem PyProof.Rows
end L2
set_option Elab.async false
set_option linter.all false
set_option maxRecDepth 100000
set_option maxHeartbeats 4000000
namespace L2
open PySem PySem.Spec PyProof.Rows
section
variable {X:Cx} {CX:ZI} {C:Addr->Sp->Prop} {E:St->XK} {x:Str} {p pos:Pos} {e:Expr} {es:List Expr} {t:TA} {i:Nat}
end
end L2
set_option Elab.async false
set_option linter.all false
set_option maxRecDepth 100000
set_option maxHeartbeats 4000000
namespace L2
open PySem PySem.Spec PyProof.Rows
section
variable {M:Model} {A:Around} {F:Value->Shared->Prop} {s:Shared} {e:Addr} {cl:Value} {d:Option Addr} {vs:Array Value} {Q:Unit->Shared->Prop}
theorem WY {T:Addr} {fl:Value} {fs:List Addr} {fr:Option Addr} (he:s.heap.get? e=some {cls:=cl,dict:=d,data:=.fields vs}) (h1:vs[1]?=some (.ref T)) (st:ym T fl s.heap)
   (k:∀h',Va fs [T] s.heap h'->ym T (fr.elim .none λf=>rawInt f) h'->Q () {s with heap:=h'}):wpAny M A (setFlight (.ref e) fr) Q F s:=by
 obtain⟨ts,ht,h3⟩:=st
 have lt:=(Array.getElem?_eq_some_iff.mp h3).1
 unfold setFlight
 refine wpAny_bind (wpAny_field he rfl h1 ?_)
 rw[if_pos (show (Value.ref T != Value.none)=true from by simp)]
 refine wpAny_setField ht rfl lt (k _ ⟨λb o _ n q=>?_,λb o _ n q=>⟨o.slots,?_⟩⟩ ⟨_,Heap.get?_update_self _ ht rfl,by simp [lt]⟩)
 all_goals
   rw[Heap.get?_update_other _ _ λz=>n (by simp [z])]
   exact q
end
section
variable {X:Cx} {pins:List (Addr×Obj)} {σ:St} {H:Hp} {s:Shared} {M:Model} {F:Value->Shared->Prop} {Q:Unit->Shared->Prop} {a C dx:Addr}
theorem xQ (I:qr X pins σ H s) (hst:X.stack=X.env::X.outer) (hfm:X.env.frame=some X.env.locals) (ha:H a=some (QN a C dx))
   (k:∀T h',H T=none->T≠a->qr X pins σ (upd (upd H a (jT a C dx (.ref T))) T (Yd T (rawInt X.env.locals))) {s with heap:=h'}->Q () {s with heap:=h'}):wpAny M X.A (noteFrame (.ref a) X.env) Q F s:=by
 obtain⟨⟨fl,he,hz⟩,_,_⟩:=(show qB X.prog X.w H s.heap a (jT a C dx .none) from I.hok a _ ha)
 have fr:=I.ok.frames
 have ff:=I.stack
 rw[hst]at fr ff
 refine XT fr ff hfm he hz λh1 T hT F1 q1 q2=>?_
 rw[<-hst]at F1
 have lt:=(Array.getElem?_eq_some_iff.mp hz).1
 have g1:(fl.setIfInBounds 1 (Value.ref T))[1]?=some (.ref T):=by simp [lt]
 have nT:T≠a:=λz=>by
   obtain⟨ts,q,_⟩:=q2
   rw[z,q1]at q
   cases q
 have hTn:H T=none:=I.hok.fresh hT
 refine k T h1 hTn nT (I.flown F1 ⟨λb hb=>by cases List.mem_singleton.mp hb;exact⟨_,ha⟩,λb o hb q=>by
     rw[qg (qm q hTn),qg λz=>hb (by simp [z])];exact q,λb hb q=>by
     rw[qg (Nat.ne_of_lt (Nat.lt_of_lt_of_le hb hT)),qg λz=>by rw[z,ha]at q;cases q];exact q⟩ (λb hb=>by cases List.mem_singleton.mp hb;exact⟨_,q1⟩) λb o q hb=>?_)
 by_cases e1:b=T
 . subst e1
   rw[qd]at q
   cases q
   exact JP q2
 . rw[qg e1]at q
   by_cases e2:b=a
   . subst e2
     rw[qd]at q
     cases q
     exact Jt ⟨_,q1,g1⟩
   . rw[qg e2]at q
     rcases hb with hb | hb
     . rw[q]at hb;cases hb
     . exact absurd (List.mem_singleton.mp hb) e2
theorem uL {T:Addr} (I:qr X pins σ H s) (hst:X.stack=X.env::X.outer) (hfm:X.env.frame=some X.env.locals) (ha:H a=some (jT a C dx (.ref T))) (ht:H T=some (Yd T .none))
   (k:∀T' h',H T'=none->T'≠a->qr X pins σ (upd (upd (upd H a (jT a C dx (.ref T'))) T (.ext λh=>∃o,h.get? T=some o)) T' (Yd T' (rawInt X.env.locals))) {s with heap:=h'}->Q () {s with heap:=h'}):wpAny M X.A (noteFrame (.ref a) X.env) Q F s:=by
 obtain⟨⟨fl,he,hz⟩,_,_⟩:=(show qB X.prog X.w H s.heap a (jT a C dx (.ref T)) from I.hok a _ ha)
 obtain⟨st0,_,_⟩:=(show qB X.prog X.w H s.heap T (Yd T .none) from I.hok T _ ht)
 have nT0:T≠a:=λz=>by
   obtain⟨ts,q,_⟩:=st0
   rw[z,he]at q
   cases q
 have fr:=I.ok.frames
 have ff:=I.stack
 rw[hst]at fr ff
 refine Y9 fr ff hfm he hz st0 nT0 λh1 T' hT F1 tT q1 q2=>?_
 rw[<-hst]at F1
 have lt:=(Array.getElem?_eq_some_iff.mp hz).1
 have g1:(fl.setIfInBounds 1 (Value.ref T'))[1]?=some (.ref T'):=by simp [lt]
 have nT:T'≠a:=λz=>by
   obtain⟨ts,q,_⟩:=q2
   rw[z,q1]at q
   cases q
 have hTn:H T'=none:=I.hok.fresh hT
 obtain⟨oT,hoT⟩:=tT
 refine k T' h1 hTn nT (I.flown F1 ⟨λb hb=>by
     simp only[List.mem_cons,List.not_mem_nil,or_false]at hb
     rcases hb with rfl | rfl
     . exact⟨_,ha⟩
     . exact⟨_,ht⟩,λb o hb q=>by
     simp only[List.mem_cons,List.not_mem_nil,or_false,not_or]at hb
     rw[qg (qm q hTn),qg hb.2,qg hb.1];exact q,λb hb q=>by
     rw[qg (Nat.ne_of_lt (Nat.lt_of_lt_of_le hb hT)),qg (λz=>by rw[z,ht]at q;cases q),qg (λz=>by rw[z,ha]at q;cases q)];exact q⟩ (λb hb=>by
     simp only[List.mem_cons,List.not_mem_nil,or_false]at hb
     rcases hb with rfl | rfl
     . exact⟨_,q1⟩
     . exact⟨_,hoT⟩) λb o q hb=>?_)
 by_cases e1:b=T'
 . subst e1
   rw[qd]at q
   cases q
   exact JP q2
 . rw[qg e1]at q
   by_cases e2:b=T
   . subst e2
     rw[qd]at q
     cases q
     exact⟨⟨_,hoT⟩,⟨_,hoT⟩,λh1 h2 ⟨u,z⟩ k=>⟨u,k u z⟩⟩
   . rw[qg e2]at q
     by_cases e3:b=a
     . subst e3
       rw[qd]at q
       cases q
       exact Jt ⟨_,q1,g1⟩
     . rw[qg e3]at q
       rcases hb with hb | hb
       . rw[q]at hb;cases hb
       . simp only[List.mem_cons,List.not_mem_nil,or_false]at hb
         exact(hb.elim e3 e2).elim
theorem X9 {T:Addr} (I:qr X pins σ H s) (hfm:X.env.frame=some X.env.locals) (ha:H a=some (jT a C dx (.ref T))) (ht:H T=some (Yd T (rawInt X.env.locals))) (k:Q () s):wpAny M X.A (noteFrame (.ref a) X.env) Q F s:=by
 obtain⟨⟨fl,he,hz⟩,_,_⟩:=(show qB X.prog X.w H s.heap a (jT a C dx (.ref T)) from I.hok a _ ha)
 obtain⟨st0,_,_⟩:=(show qB X.prog X.w H s.heap T (Yd T (rawInt X.env.locals)) from I.hok T _ ht)
 exact UD hfm he hz st0 k
theorem Xm {T:Addr} {fl:Value} {fr:Option Addr} (I:qr X pins σ H s) (ha:H a=some (jT a C dx (.ref T))) (ht:H T=some (Yd T fl))
   (k:∀h',qr X pins σ (upd H T (Yd T (fr.elim .none λf=>rawInt f))) {s with heap:=h'}->Q () {s with heap:=h'}):wpAny M X.A (setFlight (.ref a) fr) Q F s:=by
 obtain⟨⟨fs,he,hz⟩,_,_⟩:=(show qB X.prog X.w H s.heap a (jT a C dx (.ref T)) from I.hok a _ ha)
 obtain⟨st0,_,_⟩:=(show qB X.prog X.w H s.heap T (Yd T fl) from I.hok T _ ht)
 refine WY (fs:=ZO X.stack) he hz st0 λh1 F1 st=>?_
 obtain⟨ts,q,z⟩:=id st
 refine k h1 (I.flown F1 ⟨λb hb=>by cases List.mem_singleton.mp hb;exact⟨_,ht⟩,λb o hb q=>by rw[qg (λz=>hb (by simp [z]))];exact q,λb hb q=>by rw[qg (λz=>by rw[z,ht]at q;cases q)];exact q⟩ (λb hb=>by cases List.mem_singleton.mp hb;exact⟨_,q⟩) λb o q hb=>?_)
 by_cases e1:b=T
 . subst e1
   rw[qd]at q
   cases q
   exact JP st
 . rw[qg e1]at q
   rcases hb with hb | hb
   . rw[q]at hb;cases hb
   . exact absurd (List.mem_singleton.mp hb) e1
end
def V9 (X:Cx) (pins:List (Addr×Obj)) (E:XK):Value->Shared->Prop:=λe s=>
 (∃(a C dx:Addr) (H:Hp) (σ:St),e=.ref a/\qr X pins σ H s/\H a=some (QN a C dx)/\E (.ref C) (some dx) H)\/
 ∃(a C dx T:Addr) (fl:Value) (Hx H:Hp) (σ:St),e=.ref a/\qr X pins σ H s/\(fl=.none\/fl=rawInt X.env.locals)/\H a=some (jT a C dx (.ref T))/\H T=some (Yd T fl)/\Hx T=none/\Hx a=some (QN a C dx)/\(∀b o,b≠a->Hx b=some o->H b=some o)/\E (.ref C) (some dx) Hx
theorem UP {X:Cx} {pins:List (Addr×Obj)} {E:XK} (hst:X.stack=X.env::X.outer) (hfm:X.env.frame=some X.env.locals):PassesOwn (model X.prog X.w) X.A X.env (V9 X pins E):=by
 intro e s h
 have back:∀{a C dx T:Addr} {fl:Value} {H Hx:Hp} {σ:St} {s':Shared},qr X pins σ H s'->H a=some (jT a C dx (.ref T))->H T=some (Yd T fl)->T≠a->Hx T=none->Hx a=some (QN a C dx)->(∀b o,b≠a->Hx b=some o->H b=some o)->E (.ref C) (some dx) Hx->cameBackBy (model X.prog X.w) X.A X.env (V9 X pins E) (.ref a) s':=λ{a C dx T fl H Hx σ s'} I ha ht nT h1 h2 h3 hE=>by
   obtain⟨⟨fs,he,hz⟩,_,_⟩:=(show qB X.prog X.w H s'.heap a (jT a C dx (.ref T)) from I.hok a _ ha)
   unfold cameBackBy
   refine wpAny_bind (wpAny_field he rfl hz ?_)
   rw[if_neg (show ¬((Value.ref T==Value.none)=true) by simp)]
   first
     | refine Xm I ha ht λh' I2=>?_
     | refine wpAny_bind (wpAny_pure (Xm I ha ht λh' I2=>?_))
   refine .inr ⟨a,C,dx,T,_,Hx,_,σ,rfl,I2,.inr (by rw[hfm];rfl),by rw[qg (Ne.symm nT)];exact ha,qd,h1,h2,λb o nb q=>?_,hE⟩
   rw[qg (λz=>by rw[z,h1]at q;cases q)]
   exact h3 b o nb q
 rcases h with ⟨a,C,dx,H,σ,rfl,I,ha,hE⟩ | ⟨a,C,dx,T,fl,Hx,H,σ,rfl,I,hfl,ha,ht,h1,h2,h3,hE⟩
 . refine xQ I hst hfm ha λT h' hT nT I2=>?_
   exact back (Hx:=H) I2 (by rw[qg (Ne.symm nT)];exact qd) qd nT hT ha (λb o nb q=>by rw[qg (qm q hT),qg nb];exact q) hE
 . have nT:T≠a:=λz=>by rw[z,h2]at h1;cases h1
   rcases hfl with rfl | rfl
   . refine uL I hst hfm ha ht λT' h' hT nT' I2=>?_
     refine back (Hx:=Hx) I2 (by rw[qg (Ne.symm nT'),qg (Ne.symm nT)];exact qd) qd nT' ?_ h2 (λb o nb q=>?_) hE
     . cases q:Hx T' with
       | none=>rfl
       | some o=>rw[h3 T' o nT' q]at hT;cases hT
     . have n1:b≠T:=λz=>by rw[z,h1]at q;cases q
       have q':=h3 b o nb q
       rw[qg (qm q' hT),qg n1,qg nb]
       exact q'
   . exact X9 I hfm ha ht (back I ha ht nT h1 h2 h3 hE)
section
variable {P:Program} {w:World} {K:PySem.W.Frag} {mg:Str->Option Value} {base:Heap} {N:List Str} {qual:Str} {scope:Scope} {f:Addr} {cd:Value} {A:Around} {outer:List Env} {s₀:Shared} {H₀:Hp} {E:XK}
theorem UQ {pins:List (Addr×Obj)} {e:Value} {s:Shared} (h:V9 (jL (Jj P w) P w K mg base N qual scope f cd A outer s₀ H₀ E) pins E e s):(jL (Jj P w) P w K mg base N qual scope f cd A outer s₀ H₀ E).xe e s:=by
 rcases h with ⟨a,C,dx,H,σ,rfl,I,ha,hE⟩ | ⟨a,C,dx,T,fl,Hx,H,σ,rfl,I,hfl,ha,ht,h1,h2,h3,hE⟩
 . exact Yr pins σ H s a C dx I ha hE
 . rcases hfl with rfl | rfl
   . exact Uu pins σ H s _ s I ⟨a,C,dx,T,Hx,H,rfl,rfl,I.bare,Un.refl,I.hok,ha,ht,h1,h2,h3,hE⟩
   . show wpAny _ _ (leaving _ _) _ _ s
     unfold leaving
     refine wpAny_bind (X9 I rfl ha ht ?_)
     have nT:T≠a:=λz=>by rw[z,h2]at h1;cases h1
     refine Xm (fr:=none) I ha ht λh' I2=>?_
     refine⟨a,C,dx,T,Hx,_,rfl,I2.os,I2.bare,I2.base,I2.hok,by rw[qg (Ne.symm nT)];exact ha,qd,h1,h2,λb o nb q=>?_,hE⟩
     rw[qg (λz=>by rw[z,h1]at q;cases q)]
     exact h3 b o nb q
theorem ku {st:Stmt} {t:TS} (h:∀(pn:List (Addr×Obj)) (W:Value->Shared->Prop),PassesOwn (model P w) (jL (Jj P w) P w K mg base N qual scope f cd A outer s₀ H₀ E).A (jL (Jj P w) P w K mg base N qual scope f cd A outer s₀ H₀ E).env W->
     jx (Jj P w) ((jL (Jj P w) P w K mg base N qual scope f cd A outer s₀ H₀ E).tried pn W) E->Xv ((jL (Jj P w) P w K mg base N qual scope f cd A outer s₀ H₀ E).tried pn W) E->JS ((jL (Jj P w) P w K mg base N qual scope f cd A outer s₀ H₀ E).tried pn W) st t):
   PS (jL (Jj P w) P w K mg base N qual scope f cd A outer s₀ H₀ E) st t:=by
 intro pins s σ H D I hw
 refine wpAny_mono ((h _ (V9 _ pins E) (UP rfl rfl) ?_ ?_).to [] s σ H D (I.tried _) hw) (λfl s1 q=>?_) (λe s1 z=>UQ z)
 . intro pins' σ' H1 s1 e s' I1 hc
   obtain⟨a,C,dx,T,Hx,H2,rfl,os,bare,un,hok,ha,ht,hxT,hxa,hxs,hE⟩:=hc
   have I2:=I.untried (I1.call' os un hok bare λb z=>absurd z (by simp))
   exact .inr ⟨a,C,dx,T,.none,Hx,H2,σ',rfl,I2,.inl rfl,ha,ht,hxT,hxa,hxs,hE⟩
 . intro pins' σ' H1 s1 a C dx I1 ha hE
   exact .inl ⟨a,C,dx,H1,σ',rfl,I.untried I1,ha,hE⟩
 . cases fl with
   | next=>obtain⟨σ',H',I',q⟩:=q;exact⟨σ',H',I.untried I',q⟩
   | brk=>obtain⟨σ',H',I',q⟩:=q;exact⟨σ',H',I.untried I',q⟩
   | cont=>obtain⟨σ',H',I',q⟩:=q;exact⟨σ',H',I.untried I',q⟩
   | ret u=>obtain⟨v,σ',H',I',r,q⟩:=q;exact⟨v,σ',H',I.untried I',r,q⟩
theorem xF {st:Stmt} {t:TS} (h:∀(pn:List (Addr×Obj)) (W:Value->Shared->Prop),PassesOwn (model P w) (jL (Jj P w) P w K mg base N qual scope f cd A outer s₀ H₀ E).A (jL (Jj P w) P w K mg base N qual scope f cd A outer s₀ H₀ E).env W->
     jx (Jj P w) ((jL (Jj P w) P w K mg base N qual scope f cd A outer s₀ H₀ E).tried pn W) E->Xv ((jL (Jj P w) P w K mg base N qual scope f cd A outer s₀ H₀ E).tried pn W) E->JS ((jL (Jj P w) P w K mg base N qual scope f cd A outer s₀ H₀ E).tried pn W) st t):
   JS (jL (Jj P w) P w K mg base N qual scope f cd A outer s₀ H₀ E) st t:=.of (ku h)
end
end L2
set_option Elab.async false
set_option linter.all false
set_option maxRecDepth 100000
set_option maxHeartbeats 4000000
namespace L2
open PySem PySem.Spec PyProof.Rows
section
variable {X:Cx}
end
end L2
set_option Elab.async false
set_option linter.all false
set_option maxRecDepth 100000
set_option maxHeartbeats 4000000
namespace L2
open PySem PySem.Spec PyProof.Rows
def Gm:Obj:={cls:=.type "cell",data:=.cell none}
structure OwnC (n:Nat) (l:List (Str×NameKind)) (cs cs':List (Str×Addr)) (h h':Heap):Prop where
 kp:∀b o,h.get? b=some o->h'.get? b=some o
 same:∀x,(x,NameKind.cell)∉l->cs'.lookup x=cs.lookup x
 own:∀x,(x,NameKind.cell)∈l->∃c,cs'.lookup x=some c/\n<=c/\h'.get? c=some Gm
 inj:∀x y c,(x,NameKind.cell)∈l->(y,NameKind.cell)∈l->cs'.lookup x=some c->cs'.lookup y=some c->x=y
structure R7 (X:Cx) (N':List Str) (ix:List (Option Nat)) (scope:Scope):Prop where
 kind:scope.kind=.function
 nd:(scope.names.map (·.1)).Nodup
 frees:(scope.names.all λx=>x.2 != .free || (X.env.scope.names.lookup x.1==some .cell || X.env.scope.names.lookup x.1==some .free))=true
 ixs:xK N' X.N scope X.env.scope ix=true
section
variable {X:Cx} {N':List Str} {ix:List (Option Nat)} {scope:Scope} {pins:List (Addr×Obj)} {σ:St} {H:Hp} {s:Shared}
end
section
variable {X:Cx} {N':List Str} {ix:List (Option Nat)} {scope:Scope}
end
end L2
set_option Elab.async false
set_option linter.all false
set_option maxRecDepth 100000
set_option maxHeartbeats 4000000
namespace L2
open PySem PySem.Spec PyProof.Rows
section
variable {X:Cx} {CX:ZI} {k:Nat} {f C:Addr} {fd:FuncData} {ps:List Str} {sp:Sp} {dvs:List V} {ds:List Value} {E:St->XK} {m:Str} {pos apos:Pos} {e o:Expr} {es:List Expr} {ta:TE} {t:TA}
end
end L2
set_option Elab.async false
set_option linter.all false
set_option maxRecDepth 100000
set_option maxHeartbeats 4000000
namespace L2
open PySem PySem.Spec PyProof.Rows
section
variable {X:Cx}
end
end L2
set_option Elab.async false
set_option linter.all false
set_option maxRecDepth 100000
set_option maxHeartbeats 4000000
namespace L2
open PySem PySem.Spec PyProof.Rows PySem.W
section
variable {X:Cx}
end
end L2
set_option Elab.async false
set_option linter.all false
set_option maxRecDepth 100000
set_option maxHeartbeats 4000000
namespace L2
open PySem PySem.Spec PyProof.Rows
section
variable {P:Program} {w:World} {K:PySem.W.Frag} {mg:Str->Option Value} {base:Heap} {CX:ZI} {k:Nat} {f:Addr} {fd:FuncData} {ps:List Str} {sp sp':Sp}
end
end L2
set_option Elab.async false
set_option linter.all false
set_option maxRecDepth 100000
set_option maxHeartbeats 4000000
namespace L2
open PySem PySem.Spec PyProof.Rows PySem.W
section
variable {X:Cx}
end
end L2
set_option Elab.async false
set_option linter.all false
set_option maxRecDepth 100000
set_option maxHeartbeats 4000000
namespace L2
open PySem PySem.Spec PyProof.Rows
def RawD (h:Heap) (d:Addr) (es:Array DictEntry) (ep:Nat):Prop:=∃o,h.get? d=some o/\o.ExactDict/\o.data=.dict es ep
section
variable {prog:Program} {w:World} {A:Around} {E:Value->Shared->Prop} {s:Shared} {it d:Addr} {es:Array DictEntry} {i ep:Nat}
end
end L2
set_option Elab.async false
set_option linter.all false
set_option maxRecDepth 100000
set_option maxHeartbeats 4000000
namespace L2
open PySem PySem.Spec PyProof.Rows
section
variable {X:Cx} {pins:List (Addr×Obj)} {σ:St} {H:Hp} {s:Shared} {tg:Expr}
end
section
variable {a:Addr} {o:Obj} {u:HO} {g:TG} {σ:St} {H:Hp}
end
end L2
set_option Elab.async false
set_option linter.all false
set_option maxRecDepth 100000
set_option maxHeartbeats 4000000
namespace L2
open PySem PySem.Spec PyProof.Rows PySem.W
section
variable {X:Cx}
end
end L2
set_option Elab.async false
set_option linter.all false
set_option maxRecDepth 100000
set_option maxHeartbeats 4000000
namespace L2
open PySem PySem.Spec PyProof.Rows
section
variable {prog:Program} {w:World} {KK:Type} [DecidableEq KK] {kd:HeapKind prog w KK} {A:Around} {E:Value->Shared->Prop} {s:Shared}
end
section
variable {X:Cx}
end
end L2
set_option Elab.async false
set_option linter.all false
set_option maxRecDepth 100000
set_option maxHeartbeats 4000000
namespace L2
open PySem PySem.Spec PyProof.Rows
structure FnLd (P:Program) (w:World) (K:PySem.W.Frag) (mg:Str->Option Value) (base:Heap) (k:Nat) (f:Addr) (fd:FuncData) (ps:List Str) (sp:Sp):Prop where
 len:∀vs H Q E,sp vs H Q E->vs.length=ps.length
 run:∀(A:Around) (a:Value) (outer:List Env) (s:Shared) (H:Hp) (args:Args) (us:List Value) (vs:List V) (Q:VK) (E:XK),qY k A->Wq P w K mg base (A.mark (some a)) outer s H->BindsTo s fd args (ps.zip us)->qC vs us->sp vs H Q E->
   codeAny (model P w) (A.mark (some a)) (.call (.ref f) args) (CR q5 outer P w H s Q E) s
section
variable {P:Program} {w:World} {K:PySem.W.Frag} {mg:Str->Option Value} {base:Heap}
end
section
variable {X:Cx} {k:Nat} {f:Addr} {fd:FuncData} {ps:List Str} {sp:Sp} {x:Str} {p pos:Pos} {e:Expr} {es:List Expr} {t:TA} {a:Value} {E:Value->Shared->Prop}
end
end L2
set_option Elab.async false
set_option linter.all false
set_option maxRecDepth 100000
set_option maxHeartbeats 4000000
namespace L2
open PySem PySem.Spec PyProof.Rows
section
variable {X:Cx}
end
end L2
set_option Elab.async false
set_option linter.all false
set_option maxRecDepth 100000
set_option maxHeartbeats 4000000
namespace L2
open PySem PySem.Spec PyProof.Rows
section
variable {X:Cx} {CX:ZI} {k:Nat} {f C:Addr} {fd:FuncData} {ps:List Str} {sp:Sp} {dvs:List V} {ds:List Value} {E:St->XK} {x m:Str} {p pos apos:Pos} {e o:Expr} {es:List Expr} {ta:TE} {t:TA}
end
section
variable {X:Cx}
end
section
variable {X:Cx} {pins:List (Addr×Obj)} {σ:St} {H:Hp} {s:Shared}
end
end L2
set_option Elab.async false
set_option linter.all false
set_option maxRecDepth 100000
set_option maxHeartbeats 4000000
namespace L2
open PySem PySem.Spec PyProof.Rows
section
variable {prog:Program} {w:World} {A:Around} {E:Value->Shared->Prop} {s:Shared}
end
section
variable {X:Cx} {pos:Pos}
end
end L2
set_option Elab.async false
set_option linter.all false
set_option maxRecDepth 100000
set_option maxHeartbeats 4000000
namespace L2
open PySem PySem.Spec PyProof.Rows
section
variable {X:Cx}
end
end L2
set_option Elab.async false
set_option linter.all false
set_option maxRecDepth 100000
set_option maxHeartbeats 4000000
namespace L2
open PySem PySem.Spec PyProof.Rows
section
variable {X:Cx} {N':List Str} {ix:List (Option Nat)} {scope:Scope}
end
end L2
set_option Elab.async false
set_option linter.all false
set_option maxRecDepth 100000
set_option maxHeartbeats 4000000
namespace L2
open PySem PySem.Spec PyProof.Rows
abbrev Xb (o:Obj):HO:=.frz o (.frz o (.own 0))
def x5 (q:Str) (oc:Obj):Prop:=∃(vs:Array Value) (t:Tok),oc.data=.fields vs/\vs[1]?=some (.str q t)
structure Xt (mg:Str->Option Value) (base:Heap) (c P:Addr):Prop where
 code:PySem.W.CodeHd base c P
 blt:base.BuiltinsAt mg P
abbrev Cx.shut (X:Cx):Cx:={X with fn:=λ_=>false}
theorem Xp {pos:Pos} {a b:Int} {c cv:Value} (l:List Value) (h:TriplesOk l) (e:codeAmong pos (l++[rawInt a,rawInt b,c])=some cv):codeAmong pos l=some cv\/cv=c:=by
 fun_induction TriplesOk l with
 | case1=>
   simp only[List.nil_append,codeAmong,rawInt]at e
   split at e
   . exact .inr (Option.some.inj e).symm
   . cases e
 | case2 a t b u x rest ih=>
   simp only[List.cons_append,codeAmong]at e ⊢
   split at e
   . rename_i hc;rw[if_pos hc];exact .inl e
   . rename_i hc;rw[if_neg hc];exact ih h e
 | case3 l h1 h2=>exact h.elim
section
variable {X:Cx} {pins:List (Addr×Obj)} {σ:St} {H:Hp} {s:Shared}
theorem Cx.Ok.shut (o:X.Ok):X.shut.Ok:=⟨o.mod,o.kind,o.glob,o.blt,o.above,o.inj,o.has,λ_ _ z=>Bool.noConfusion z,o.hd,o.frames,o.stk,o.exf,o.bs,o.bsz,o.noex,o.exfs,o.funs,o.frf⟩
def QC (cs:Addr->Option Obj) (H:Hp):Hp:=λb=>match cs b with
 | some o=>some (Xb o)
 | none=>H b
theorem QW {cs:Addr->Option Obj} (hn:∀b o,cs b=some o->H b=none) {b:Addr} {u:HO} (e:H b=some u):QC cs H b=some u:=by
 unfold QC
 cases q:cs b with
 | none=>exact e
 | some o=>rw[hn b o q]at e;cases e
theorem Ji {cs:Addr->Option Obj} {b:Addr} (n:∀o,cs b≠some o):QC cs H b=H b:=by
 unfold QC
 cases q:cs b with
 | none=>rfl
 | some o=>exact absurd q (n o)
theorem zS {cs:Addr->Option Obj} {b:Addr} {o:Obj} (e:cs b=some o):QC cs H b=some (Xb o):=by unfold QC;rw[e]
theorem qr.catchN (I:qr X pins σ H s) {cs:Addr->Option Obj} (hc:∀b o,cs b=some o->∃x v,X.env.cells.lookup x=some b/\X.fn x=true/\s.heap.get? b=some o/\o.data=.cell v):∀b o,cs b=some o->H b=none:=λb o e=>by
 obtain⟨x,v,h1,h2,_⟩:=hc b o e
 rcases I.freeC x b h1 with q | ⟨q,_⟩
 . exact q
 . rw[h2]at q;cases q
theorem qr.catch (I:qr X pins σ H s) (cs:Addr->Option Obj) (hc:∀b o,cs b=some o->∃x v,X.env.cells.lookup x=some b/\X.fn x=true/\s.heap.get? b=some o/\o.data=.cell v):qr X.shut pins σ (QC cs H) s:=by
 have hn:=I.catchN hc
 have same:∀{b:Addr} {u:HO},H b=some u->QC cs H b=some u:=λe=>QW hn e
 refine⟨I.ok.shut,I.os,I.bare,⟨I.base.keep,I.base.slot,λb o e n hx=>?_,I.base.there,λb xs e=>same (I.base.tups b xs e),λb o u e=>same (I.base.frzs b o u e),λb ps e=>?_⟩,I.loc,I.cell,?_,λx c e=>?_,λp hp=>?_,λb u e=>?_,I.len⟩
 . rw[Ji λo' q=>?_]
   . exact I.base.free b o e n hx
   . obtain⟨x,v,h1,h2,_⟩:=hc b o' q
     exact absurd (Nat.lt_of_lt_of_le (Heap.lt_size e) (I.ok.cab x b h2 h1)) (Nat.lt_irrefl _)
 . obtain⟨m,q⟩:=I.base.tbls b ps e
   exact⟨m,same q⟩
 . show QC cs H X.env.locals=none
   rw[Ji λo' q=>?_]
   . exact I.free
   . obtain⟨x,v,h1,_⟩:=hc _ o' q
     exact I.cne x _ h1 rfl
 . cases q:cs c with
   | some o=>exact .inr ⟨rfl,o,zS q⟩
   | none=>
     have e2:QC cs H c=H c:=Ji λo z=>by rw[q]at z;cases z
     rw[e2]
     exact(I.freeC x c e).imp id λz=>⟨rfl,z.2⟩
 . obtain⟨e,n,ne,nf,d⟩:=I.pin p hp
   refine⟨e,?_,ne,nf,d⟩
   rw[Ji λo' q=>?_]
   . exact n
   . obtain⟨x,v,h1,h2,h3,h4⟩:=hc _ o' q
     rw[e]at h3
     cases h3
     exact d v h4
 . cases q:cs b with
   | some o=>
     rw[zS q]at e
     cases e
     obtain⟨x,v,h1,h2,h3,h4⟩:=hc b o q
     exact⟨h3,h3,o,h3⟩
   | none=>
     rw[Ji λo z=>by rw[q]at z;cases z]at e
     exact(I.hok b u e).stay (λ_ _ _ z=>z) (λ_ z=>same z) (λ_ _ z=>same z) (λ_ _ z=>same z)
structure R0 (X:Cx) (σ:St) (H H':Hp) (P:Addr) (name qual:Str) (params:Arguments) (body:List Stmt) (scope:Scope) (f c':Addr) (doc pm ctv:Value) (oc:Obj):Prop where
 same:Same H H'
 new:H f=none
 fn:H' f=some (Xb (PySem.W.fnMade name qual params body scope (qS X.env scope.names []) doc pm c' ctv))
 cd:H' c'=some (.frz oc (.own P))
 cq:x5 qual oc
 cells:∀x,(x,NameKind.free)∈scope.names->∃ca co v,(qS X.env scope.names []).lookup x=some ca/\H' ca=some (Xb co)/\co.data=.cell v/\∀(i:Nat) (y:V),X.N[i]?=some x->σ[i]?=some (some y)->∃u,v=some u/\qJ y u
 inj:∀x y c,(qS X.env scope.names []).lookup x=some c->(qS X.env scope.names []).lookup y=some c->x=y
def PB (X:Cx) (st:List Stmt) (t:TS):Prop:=
 ∀(pins:List (Addr×Obj)) (s:Shared) (σ:St) (H:Hp) (D:QF),qr X pins σ H s->t D σ H->wpAny (model X.prog X.w) X.A (execs st X.env) (λfl s'=>∃g,SP {X with fn:=g} pins D fl s') X.xe s
theorem wA {st:List Stmt} {t:TS} (h:z0 X st t):PB X st t:=λpins s σ H D I q=>je (h.to pins s σ H D I q) λfl s' z=>⟨X.fn,z⟩
theorem xb {st:Stmt} {rest:List Stmt} {t u:TS} (h1:JS X st t) (h2:PB X rest u):PB X (st::rest) (XC t u):=by
 intro pins s σ H D I h
 refine wpAny_execs_cons (je (h1.to pins s σ H {D with nx:=u D} I h) λf s1 q=>?_)
 cases f with
 | next=>
   obtain⟨σ',H',I',q⟩:=q
   exact h2 pins s1 σ' H' D I' q
 | ret v=>exact⟨X.fn,q⟩
 | brk=>exact⟨X.fn,q⟩
 | cont=>exact⟨X.fn,q⟩
theorem qr.made_def {h':Heap} {P c':Addr} {ts:Array Value} {tk tq:Nat} {qual:Str} {pos:Pos} {oc fo:Obj} (I:qr X pins σ H s) (hP:H P=some (.tbl #[.str qual tq])) (eP:s.heap.get? P=some (PySem.W.tabObj ts)) (tr:TriplesOk ts.toList)
   (cs:∀pos cv,codeAmong pos ts.toList=some cv->∃c oc,cv=.ref c/\H c=some (.frz oc (.own P))/\Gy #[.str qual tq] oc) (hx:Heap.ExtBut P s.heap h') (hge:s.heap.objs.size<=c') (hlt:c' < h'.objs.size) (hoc:h'.get? c'=some oc) (hq:x5 qual oc)
   (htb:h'.get? P=some (PySem.W.tabObj (ts++#[rawInt pos.line,rawInt pos.col,.ref c']))) (hfo:fo.isFreed=false):qr X pins σ (upd (upd H c' (.frz oc (.own P))) h'.objs.size (Xb fo)) {s with heap:=h'.push fo,toks:=tk}:=by
 have hc0:H c'=none:=I.hok.fresh hge
 have hf0:H h'.objs.size=none:=I.hok.fresh (Nat.le_of_lt (Nat.lt_of_le_of_lt hge hlt))
 have up:∀{b:Addr} {u:HO},H b=some u->upd (upd H c' (.frz oc (.own P))) h'.objs.size (Xb fo) b=some u:=λ{b u} e=>by
   rw[qg (qm e hf0),qg (qm e hc0)]
   exact e
 have nP:∀{b:Addr},H b=none->b≠P:=λn z=>by rw[z,hP]at n;cases n
 have old:∀b o,b≠P->s.heap.get? b=some o->(h'.push fo).get? b=some o:=λb o n e=>Heap.get?_push_of_some _ (hx b o n e)
 have lt:∀{b:Addr} {o:Obj},s.heap.get? b=some o->b≠h'.objs.size/\b≠c':=λe=>⟨Nat.ne_of_lt (Nat.lt_trans (Nat.lt_of_lt_of_le (Heap.lt_size e) hge) hlt),Nat.ne_of_lt (Nat.lt_of_lt_of_le (Heap.lt_size e) hge)⟩
 refine I.step (g':=s.gens) (d':=s.drawn) (ch:=[]) (λ_ z=>nomatch z) (λb o _ _ _ e n=>old b o (nP n) e) (λb o _ _ _ e n=>⟨o.slots,old b o (nP n) e⟩) (λb o _ e n=>?_) (λb o _ e=>?_) (λb xs e=>up e) (λb o u e=>up e) (λb ps e=>⟨#[],by rw[up e];simp⟩) (λm hm=>(hm.extBut hx (nP I.free)).push _) (λb u e=>?_) I.bare
 . rw[qg (lt e).1,qg (lt e).2]
   exact n
 . rcases Decidable.em (b=P) with z | z
   . rw[z];exact⟨_,Heap.get?_push_of_some _ htb⟩
   . exact⟨o,old b o z e⟩
 . rcases Decidable.em (b=h'.objs.size) with z | z
   . subst z
     rw[qd]at e
     cases e
     have:=Heap.get?_push_size h' hfo
     exact⟨this,this,_,this⟩
   rw[qg z]at e
   rcases Decidable.em (b=c') with z2 | z2
   . subst z2
     rw[qd]at e
     cases e
     have:=Heap.get?_push_of_some fo hoc
     exact⟨this,_,this⟩
   rw[qg z2]at e
   rcases Decidable.em (b=P) with z3 | z3
   . subst z3
     rw[hP]at e
     cases e
     refine⟨_,Heap.get?_push_of_some _ htb,?_,λpos' cv q=>?_⟩
     . rw[Array.toList_append]
       exact TriplesOk_snoc _ _ _ _ tr
     . rw[Array.toList_append]at q
       rcases Xp _ tr q with q | q
       . obtain⟨c,oc',e1,e2,e3⟩:=cs pos' cv q
         exact⟨c,oc',e1,up e2,e3⟩
       . obtain⟨vs,t,h1,h2⟩:=hq
         exact⟨c',oc,q,by rw[qg (Nat.ne_of_lt hlt),qd],qual,tq,vs,t,rfl,h1,h2⟩
   . refine(I.hok b u e).stay (λc v hc g=>old c v ?_ g) (λ_ z=>up z) (λ_ _ z=>up z) (λ_ _ z=>up z)
     rcases hc with z | z
     . rw[z];exact z3
     . intro z'
       rw[z',hP]at z
       cases z
def G9 (X:Cx) (P:Addr) (i:Nat) (name qual:Str) (params:Arguments) (body:List Stmt) (scope:Scope) (u:TS):TS:=λD σ H=>(∃tq,H P=some (.tbl #[.str qual tq]))/\∀f c' doc pm ctv oc H',R0 X (σ.set i (some (.ref f))) H H' P name qual params body scope f c' doc pm ctv oc->u D (σ.set i (some (.ref f))) H'
open Classical in
theorem vU {i:Nat} {c P:Addr} {name qual:Str} {params:Arguments} {body rest:List Stmt} {scope:Scope} {pos:Pos} {u:TS} (TM:Xt X.mg X.base c P) (hN:X.N.Nodup) (hxi:X.N[i]?=some name) (hloc:X.env.scope.names.lookup name=some .local) (hcode:X.env.code=.ref c) (hq:qualnameIn X.env name name=qual)
   (hfr:(scope.names.all λx=>x.2 != .free || X.env.scope.names.lookup x.1==some .cell)=true) (hfn:∀x,X.fn x=true) (hd0:params.defaults=[]) (hk0:params.kw_defaults=[]) (ha:annTrees params none X.env=[]) (h2:PB X.shut rest u):
   PB X (.FunctionDef name params body [] none [] scope none name pos::rest) (G9 X P i name qual params body scope u):=by
 intro pins s σ H D I h
 obtain⟨⟨tq,hP⟩,h⟩:=h
 obtain⟨ts,eP,tr,cs⟩:=(show qB X.prog X.w H s.heap P (.tbl #[.str qual tq]) from I.hok P _ hP)
 refine wpAny_execs_cons (PySem.W.nestDef_K hd0 hk0 ha ?_)
 rw[hq]
 have hg:s.heap.Ns mainGlobals X.mg:=I.ok.mod.glob.keeps I.bk
 have CH:=TM.code.keeps I.bk
 have hb:s.heap.BuiltinsAt X.mg P:=by
   obtain⟨bm,o,b1,b2,b3,b4,b5,b6⟩:=TM.blt
   exact⟨bm,o,b1,b2,b3,b4,I.bk _ _ b5,b6⟩
 have hgP:mainGlobals≠P:=λz=>by
   obtain⟨o,es,ep,e,_⟩:=I.ok.mod.glob
   have:=(I.bs _ _ e).2
   rw[z,hP]at this
   cases this
 have frc:∀x,(x,NameKind.free)∈scope.names->X.env.scope.names.lookup x=some .cell:=λx hx=>by
   have:=List.all_eq_true.mp hfr _ hx
   simpa using this
 have frc':∀x,(x,NameKind.free)∈scope.names->∃c,X.env.cells.lookup x=some c:=λx hx=>I.ok.has x (.inl (frc x hx))
 have hcl:closureFor scope X.env=pure (qS X.env scope.names []):=QB λx hx e=>frc' x.1 (by rw[<-e];exact hx)
 have clo:∀x,(x,NameKind.free)∈scope.names->∀ca,X.env.cells.lookup x=some ca->(qS X.env scope.names []).lookup x=some ca:=λx hx ca e=>by
   obtain⟨c2,hc2⟩:=QV (env:=X.env) (cs:=[]) (.inl hx)
   rcases j2 hc2 with z | ⟨_,z⟩
   . simp at z
   . rw[e]at z
     rw[hc2,z]
     rfl
 have look:∀x c,(qS X.env scope.names []).lookup x=some c->X.env.cells.lookup x=some c:=λx c e=>by
   rcases j2 e with z | ⟨z1,z2⟩
   . simp at z
   . obtain⟨c2,h2⟩:=frc' x z1
     rw[h2]at z2
     rw[h2,z2]
     rfl
 have inj:∀x y c,(qS X.env scope.names []).lookup x=some c->(qS X.env scope.names []).lookup y=some c->x=y:=λx y c h1 h2=>I.ok.inj x y c (look x c h1) (look y c h2)
 have fin:∀{f c':Addr} {doc pm ctv:Value} {oc:Obj} {H1:Hp} {s1:Shared},qr X pins σ H1 s1->Same H H1->H f=none->H1 f=some (Xb (PySem.W.fnMade name qual params body scope (qS X.env scope.names []) doc pm c' ctv))->H1 c'=some (.frz oc (.own P))->x5 qual oc->
     wpAny (model X.prog X.w) X.A (storeName X.env name (.ref f)) (λ_ s''=>wpAny (model X.prog X.w) X.A (execs rest X.env) (λfl s'=>∃g,SP {X with fn:=g} pins D fl s') X.xe s'') X.xe s1:=λ{f c' doc pm ctv oc H1 s1} I1 sm nf e1 e2 e3=>by
   refine Zu I1 hN hxi (.inl hloc) (v:=.ref f) rfl (λs2 I2 _=>?_) (.inr hloc)
   let cc:Addr->Option Obj:=λb=>if ∃x,(x,NameKind.free)∈scope.names/\X.env.cells.lookup x=some b then s2.heap.get? b else none
   have hc:∀b o,cc b=some o->∃x v,X.env.cells.lookup x=some b/\X.fn x=true/\s2.heap.get? b=some o/\o.data=.cell v:=λb o e=>by
     rcases Classical.em (∃x,(x,NameKind.free)∈scope.names/\X.env.cells.lookup x=some b) with z | z
     . have e':s2.heap.get? b=some o:=(if_pos z).symm.trans e
       obtain⟨x,hx,hxb⟩:=z
       obtain⟨v,o',ho,hd⟩:=I2.cell x b hxb
       rw[e']at ho
       cases ho
       exact⟨x,v,hxb,hfn x,e',hd⟩
     . have:cc b=none:=if_neg z
       rw[this]at e
       cases e
   have hn:=I2.catchN hc
   refine h2 pins s2 _ _ D (I2.catch cc hc) (h f c' doc pm ctv oc _ ⟨λb u e=>QW hn (sm _ _ e),nf,QW hn e1,QW hn e2,e3,λx hx=>?_,inj⟩)
   obtain⟨ca,hca⟩:=frc' x hx
   obtain⟨v,o,ho,hd⟩:=I2.cell x ca hca
   have ecc:cc ca=some o:=(if_pos ⟨x,hx,hca⟩).trans ho
   refine⟨ca,o,v,clo x hx ca hca,zS ecc,hd,λj y e1 e2=>?_⟩
   obtain⟨m,_,hl⟩:=I2.loc
   obtain⟨w',rw',lk⟩:=hl j x y e1 e2 (.inr (.inl (frc x hx)))
   rcases lk with ⟨k,_⟩ | ⟨_,c2,ec2,o2,ho2,hd2⟩
   . have k':X.env.scope.names.lookup x=some .local:=k
     rw[frc x hx]at k'
     cases k'
   . rw[hca]at ec2
     cases ec2
     rw[ho]at ho2
     cases ho2
     rw[hd]at hd2
     exact⟨w',Data.cell.inj hd2,rw'⟩
 cases hh:codeAmong pos ts.toList with
 | none=>
   refine PySem.W.makeFunction_K (mg:=X.mg) hcl I.ok.glob hg hcode CH eP tr hh hgP hb λc' ctv doc h' tk hx hge hlt hrec htb=>?_
   obtain⟨c2,oc,vs,t,e2,hoc,hd,hv⟩:=hrec
   cases e2
   have hc0:H c'=none:=I.hok.fresh hge
   have hf0:H h'.objs.size=none:=I.hok.fresh (Nat.le_of_lt (Nat.lt_of_le_of_lt hge hlt))
   refine fin (I.made_def hP eP tr cs hx hge hlt hoc ⟨vs,t,hd,hv⟩ htb rfl) (λb u e=>?_) hf0 qd ?_ ⟨vs,t,hd,hv⟩
   . rw[qg (qm e hf0),qg (qm e hc0)]
     exact e
   . rw[qg (Nat.ne_of_lt hlt),qd]
 | some cv=>
   obtain⟨c',oc,rfl,ec,q,t,vs,t',hq1,hd,hv⟩:=cs pos cv hh
   cases hq1
   refine PySem.W.makeFunction_hit (mg:=X.mg) hcl I.ok.glob hg hcode CH eP tr hh hb λctv doc h' tk hk hsz=>?_
   have hf0:H h'.objs.size=none:=I.hok.fresh hsz
   have e1:(h'.push (PySem.W.fnMade name qual params body scope (qS X.env scope.names []) doc ((X.mg "__name__").getD .none) c' ctv)).get? h'.objs.size=some (PySem.W.fnMade name qual params body scope (qS X.env scope.names []) doc ((X.mg "__name__").getD .none) c' ctv):=Heap.get?_push_size h' rfl
   refine fin (oc:=oc) (I.laid (t':=tk) (o:=Xb (PySem.W.fnMade name qual params body scope (qS X.env scope.names []) doc ((X.mg "__name__").getD .none) c' ctv)) (λb o e=>Heap.get?_push_of_some _ (hk b o e)) hsz ⟨e1,e1,_,e1⟩) (λb u e=>by rw[qg (qm e hf0)];exact e) hf0 qd ?_ ⟨vs,t',hd,hv⟩
   rw[qg (qm ec hf0)]
   exact ec
end
end L2
set_option Elab.async false
set_option linter.all false
set_option maxRecDepth 100000
set_option maxHeartbeats 4000000
namespace L2
open PySem PySem.Spec PyProof.Rows
section
variable {P:Program} {w:World} {K:PySem.W.Frag} {mg:Str->Option Value} {base:Heap} {N:List Str} {qual:Str} {scope:Scope} {f:Addr} {cd:Value} {A:Around} {outer:List Env} {s₀:Shared} {H₀:Hp} {E:XK}
end
section
variable {P:Program} {w:World} {K:PySem.W.Frag} {mg:Str->Option Value} {base:Heap}
theorem Qa.okB {CX:ZI} {x qual:Str} {st:Stmt} {f c:Addr} {fd:FuncData} {N ps:List Str} {k:Nat} {sp:Sp} (F:Qa K x qual st f fd) (hc:fd.code=.ref c) (S:qA N ps (qi st)) (len:∀vs H Q E,sp vs H Q E->vs.length=ps.length)
   (hbody:∀(A:Around) (outer:List Env) (s:Shared) (H:Hp) (vs:List V) (Q:VK) (E:XK),qY k (A.deeper (envOfC qual (qi st) s.heap.objs.size f (.ref c)))->sp vs H Q E->
     ∃t,PB (jL CX P w K mg base N qual (qi st) f (.ref c) A outer s H E) (ja st) t/\t {nx:=λ_ H'=>Q .non H',rt:=Q} (jU N vs) H):qp P w K mg base CX (k+1) f fd ps sp:=by
 obtain⟨oc,od,kV,doc,pm,an,cdv,ct,osl,rfl,lk,hcd⟩:=F.ex
 have hc':cdv=.ref c:=hc
 subst hc'
 refine⟨len,λA outer s H args us vs Q E hr e0 hb r hsp=>?_⟩
 have hl:=len _ _ _ _ hsp
 have KX:K.In s.heap:=e0.mod.kin.keeps λb o e=>(e0.bs b o e).1
 have lim:s.heap.NoLimit:=e0.mod.nolimit.keeps λb o e=>(e0.bs b o e).1
 have hkind:∀y∈ps.zip us,(qi st).names.lookup y.1=some .local\/((qi st).names.lookup y.1=some .cell/\((cellsFrom (s.heap.objs.size+1) (qi st).names []).lookup y.1).isSome=true):=λ⟨n,v⟩ hy=>by
   rcases S.par n (List.of_mem_zip hy).1 with q | q
   . exact .inl q
   . exact .inr ⟨q,PySem.W.cellsFrom_some _ _ _ (.inl q)⟩
 refine codeAny_call_function hr.depth (KX _ _ lk) rfl S.co S.gen rfl (PySem.W.codeRec_of KX hcd) (hb _ _ _ _ ?_)
 refine wpAny_newFunctionEnv_cells S.kind hkind λenv he s1 x=>?_
 subst he
 refine⟨lim.keeps x.toInCall.keep,codeAny_func ?_⟩
 obtain⟨t,ht,hq⟩:=hbody A outer s H vs Q E (hr.deeper _) hsp
 have I:qr (jL CX P w K mg base N qual (qi st) f (.ref c) A outer s H E) [] (jU N vs) H s1:=YE S hr.hd e0 hl r x
 refine wpAny_mono (ht [] s1 (jU N vs) H _ I hq) (λfl s' hs=>?_) λe s' hs=>hs
 obtain⟨g,hs⟩:=hs
 have fin:∀{σ':St} {H':Hp} {v:V} {u:Value},qr {jL CX P w K mg base N qual (qi st) f (.ref c) A outer s H E with fn:=g} [] σ' H' s'->qJ v u->Q v H'->CE outer P w H s Q u s':=
   λ{σ' H' v u} J rv q=>⟨v,H',J.os,J.bare,J.base,J.hok,rv,q⟩
 cases fl with
 | ret u=>
   obtain⟨v,σ',H',J,rv,q⟩:=hs
   exact fin J rv q
 | next=>
   obtain⟨σ',H',J,q⟩:=hs
   exact fin (v:=V.non) (u:=Value.none) J rfl q
 | brk=>
   obtain⟨_,_,_,q⟩:=hs
   exact False.elim q
 | cont=>
   obtain⟨_,_,_,q⟩:=hs
   exact False.elim q
end
structure Ya (N ps fr:List Str) (sc:Scope):Prop where
 kind:sc.kind=.function
 co:sc.isCoroutine=false
 gen:sc.isGenerator=false
 nd:N.Nodup
 pre:N.take (ps++fr).length=ps++fr
 par:∀x∈ps,sc.names.lookup x=some .local
 free:∀x∈fr,sc.names.lookup x=some .free
 frees:∀y∈sc.names,y.2=.free->y.1∈fr
 nocell:∀y∈sc.names,y.2≠.cell
structure vb (H:Hp) (P f:Addr) (name qual:Str) (st:Stmt) (fd:FuncData) (ws:List (Str×V)):Prop where
 ex:∃(doc pm ctv:Value) (c':Addr) (cl:List (Str×Addr)) (oc:Obj),fd=PySem.W.fnX name qual (jA st) (ja st) (qi st) cl .none .none doc pm none (.ref c') ctv/\H f=some (Xb {cls:=.type "function",data:=.func fd})/\H c'=some (.frz oc (.own P))/\x5 qual oc/\
   (∀x y c,cl.lookup x=some c->cl.lookup y=some c->x=y)/\(∀x c,cl.lookup x=some c->x∈ws.map (·.1))/\
   ∀x v,(x,v)∈ws->∃c o u,cl.lookup x=some c/\H c=some (Xb o)/\o.data=.cell (some u)/\qJ v u
theorem vb.mono {H H':Hp} {P f:Addr} {name qual:Str} {st:Stmt} {fd:FuncData} {ws:List (Str×V)} (h:vb H P f name qual st fd ws) (k:∀b o u,H b=some (.frz o u)->H' b=some (.frz o u)):vb H' P f name qual st fd ws:=by
 obtain⟨doc,pm,ctv,c',cl,oc,h1,h2,h3,h4,h5,h6,h7⟩:=h.ex
 exact⟨doc,pm,ctv,c',cl,oc,h1,k _ _ _ h2,k _ _ _ h3,h4,h5,h6,λx v hx=>let ⟨c,o,u,a,b,d,e⟩:=h7 x v hx;⟨c,o,u,a,k _ _ _ b,d,e⟩⟩
def V2 (CX:ZI) (P:Program) (w:World) (K:PySem.W.Frag) (mg:Str->Option Value) (base:Heap) (N:List Str) (qual:Str) (scope:Scope) (f:Addr) (cd:Value) (cl:List (Str×Addr)) (A:Around) (outer:List Env) (s:Shared) (H:Hp) (E:XK):Cx where
 prog:=P
 w:=w
 K:=K
 mg:=mg
 base:=base
 A:=A.deeper (PySem.W.envX qual scope s.heap.objs.size f cd cl)
 N:=N
 s₀:=s
 H₀:=H
 env:=PySem.W.envX qual scope s.heap.objs.size f cd cl
 outer:=outer
 stack:=PySem.W.envX qual scope s.heap.objs.size f cd cl::outer
 ex:=[]
 calm:=true
 fn:=λ_=>false
 pn:=[]
 xe:=λe s'=>wpAny (model P w) (A.deeper (PySem.W.envX qual scope s.heap.objs.size f cd cl)) (leaving (PySem.W.envX qual scope s.heap.objs.size f cd cl) e) (λ_ s''=>CX outer H s E e s'') (λe' s''=>CX outer H s E e' s'') s'
theorem WR {x:Str} {u:Value}:∀{ps:List Str} {us:List Value} {i:Nat},ps.Nodup->ps[i]?=some x->us[i]?=some u->(ps.zip us).reverse.lookup x=some u:=by
 intro ps
 induction ps with
 | nil=>intro us i _ h;cases h
 | cons p ps ih=>
   intro us i nd h1 h2
   cases us with
   | nil=>cases h2
   | cons v us=>
     rw[List.zip_cons_cons,List.reverse_cons]
     obtain⟨np,nd⟩:=List.nodup_cons.mp nd
     cases i with
     | zero=>
       obtain rfl:p=x:=by simpa using h1
       obtain rfl:v=u:=by simpa using h2
       have:(ps.zip us).reverse.lookup p=none:=by
         rw[List.lookup_eq_none_iff]
         intro q hq
         have:=(List.of_mem_zip (List.mem_reverse.mp hq)).1
         simp only[beq_eq_false_iff_ne,ne_eq,Bool.not_eq_true,bne_iff_ne]
         intro z
         rw[z]at np
         exact np this
       rw[List.lookup_append,this]
       simp
     | succ i=>
       have:=ih nd (by simpa using h1) (by simpa using h2)
       rw[List.lookup_append,this]
       rfl
section
variable {P:Program} {w:World} {K:PySem.W.Frag} {mg:Str->Option Value} {base:Heap}
theorem yh {CX:ZI} {PT f:Addr} {name qual:Str} {st:Stmt} {fd:FuncData} {N ps fr:List Str} {k:Nat} {sp:List (Str×V)->Sp} (S:Ya N ps fr (qi st)) (len:∀ws vs H Q E,sp ws vs H Q E->vs.length=ps.length/\ws.map (·.1)=fr)
   (hbody:∀(c':Addr) (cl:List (Str×Addr)) (A:Around) (outer:List Env) (s:Shared) (H:Hp) (ws:List (Str×V)) (vs:List V) (Q:VK) (E:XK),qY k (A.deeper (PySem.W.envX qual (qi st) s.heap.objs.size f (.ref c') cl))->sp ws vs H Q E->
     ∃t,z0 (V2 CX P w K mg base N qual (qi st) f (.ref c') cl A outer s H E) (ja st) t/\t {nx:=λ_ H'=>Q .non H',rt:=Q} (jU N (vs++ws.map (·.2))) H):
   qp P w K mg base CX (k+1) f fd ps (λvs H Q E=>∃ws,vb H PT f name qual st fd ws/\sp ws vs H Q E):=by
 refine⟨λvs H Q E ⟨ws,_,h⟩=>(len _ _ _ _ _ h).1,λA outer s H args us vs Q E hr e0 hb r ⟨ws,C,hsp⟩=>?_⟩
 obtain⟨hl,hw⟩:=len _ _ _ _ _ hsp
 obtain⟨doc,pm,ctv,c',cl,oc,rfl,hf,hcd,⟨vs',t',hd',hv'⟩,inj,clw,cells⟩:=C.ex
 have ef:=(show qB P w H s.heap f (Xb _) from e0.hok f _ hf).1
 have ec:=(show qB P w H s.heap c' (.frz oc (.own PT)) from e0.hok c' _ hcd).1
 have lim:s.heap.NoLimit:=e0.mod.nolimit.keeps λb o e=>(e0.bs b o e).1
 refine codeAny_call_function hr.depth ef rfl S.co S.gen rfl ⟨c',oc,vs',t',rfl,ec,hd',hv'⟩ (hb _ _ _ _ ?_)
 refine wpAny_newFunctionEnv S.nocell (λy hy=>S.par y.1 (List.of_mem_zip hy).1) (λh1 hns hsb=>?_) S.kind
 have hk:∀b o,s.heap.get? b=some o->h1.get? b=some o:=λb o e=>hsb.extBut b o (Nat.ne_of_lt (Heap.lt_size e)) (Heap.get?_push_of_some _ e)
 refine⟨lim.keeps hk,codeAny_func ?_⟩
 obtain⟨t,ht,hq⟩:=hbody c' cl A outer s H ws vs Q E (hr.deeper _) hsp
 have noA:∀b:Addr,b∉(V2 CX P w K mg base N qual (qi st) f (.ref c') cl A outer s H E).ex:=λb z=>absurd (show b∈([]:List Addr) from z) (by simp)
 have lw:ws.length=fr.length:=by have:=congrArg List.length hw;simpa using this
 have hN:ps.length+fr.length<=N.length:=by
   have:=congrArg List.length S.pre
   rw[List.length_take,List.length_append]at this
   omega
 have kn:∀x c,cl.lookup x=some c->∃o u,H c=some (Xb o)/\o.data=.cell (some u):=λx c e=>by
   obtain⟨⟨y,v⟩,hy,rfl⟩:=List.mem_map.mp (clw x c e)
   obtain⟨c2,o,u,a,b,d,_⟩:=cells y v hy
   rw[e]at a
   cases a
   exact⟨o,u,b,d⟩
 have I:qr (V2 CX P w K mg base N qual (qi st) f (.ref c') cl A outer s H E) [] (jU N (vs++ws.map (·.2))) H {s with heap:=h1,toks:=s.toks+(ps.zip us).length}:=by
   refine⟨⟨e0.mod,S.kind,rfl,rfl,Nat.le_refl _,inj,λy hy=>?_,λ_ _ z=>Bool.noConfusion z,λ_=>hr.hd,Around.frames_deeper e0.frames,.inr ⟨rfl,rfl⟩,λb z=>absurd z (noA b),e0.bs,e0.bsz,λb _ _=>noA b,λb z=>absurd z (noA b),e0.funs,e0.frf⟩,
     rfl,e0.bare,Un.kept hk,⟨_,hns,λi y v q1 q2 q3=>?_⟩,λy c h=>?_,e0.hok.fresh (Nat.le_refl _),λy c h=>?_,λp hp=>absurd (show p∈([]:List (Addr×Obj)) from hp) (by simp),e0.hok.kept hk,?_⟩
   . have hy:(qi st).names.lookup y=some .cell\/(qi st).names.lookup y=some .free:=hy
     rcases hy with hy | hy
     . exact absurd rfl (S.nocell _ (PySem.mem_of_lookup hy))
     . have:=S.frees _ (PySem.mem_of_lookup hy) rfl
       rw[<-hw]at this
       obtain⟨⟨z,v⟩,hz,ez⟩:=List.mem_map.mp this
       obtain⟨c2,o,u,a,_⟩:=cells z v hz
       exact⟨c2,by rw[<-show z=y from ez];exact a⟩
   . have hi:i < (vs++ws.map (·.2)).length:=by
       rcases Nat.lt_or_ge i (vs++ws.map (·.2)).length with z | z
       . exact z
       . unfold jU at q2
         rw[List.getElem?_append_right (by simpa using z),List.getElem?_replicate]at q2
         split at q2<;>cases q2
     have q2':(vs++ws.map (·.2))[i]?=some v:=by
       unfold jU at q2
       rw[List.getElem?_append_left (by simpa using hi),List.getElem?_map]at q2
       cases e:(vs++ws.map (·.2))[i]? with
       | none=>rw[e]at q2;cases q2
       | some z=>rw[e]at q2;cases q2;rfl
     rw[List.length_append,List.length_map]at hi
     have q1':(ps++fr)[i]?=some y:=by
       rw[<-S.pre,List.getElem?_take_of_lt (by rw[List.length_append];omega)]
       exact q1
     rcases Nat.lt_or_ge i vs.length with z | z
     . rw[List.getElem?_append_left z]at q2'
       rw[List.getElem?_append_left (by omega)]at q1'
       obtain⟨u,hu,rv⟩:=r.get q2'
       have ndP:ps.Nodup:=by
         have:=S.nd.sublist (List.take_sublist (ps++fr).length N)
         rw[S.pre]at this
         exact(List.nodup_append.mp this).1
       exact⟨u,rv,.inl ⟨S.par y (List.mem_of_getElem? q1'),WR ndP q1' hu⟩⟩
     . rw[List.getElem?_append_right z,List.getElem?_map]at q2'
       rw[List.getElem?_append_right (by omega),<-hl]at q1'
       rw[<-hw,List.getElem?_map]at q1'
       cases e:ws[i - vs.length]? with
       | none=>rw[e]at q2';cases q2'
       | some yv=>
         rw[e]at q2' q1'
         obtain rfl:yv.1=y:=Option.some.inj q1'
         obtain rfl:yv.2=v:=Option.some.inj q2'
         have hm:yv∈ws:=List.mem_of_getElem? e
         obtain⟨c2,o,u,a,b,d,rv⟩:=cells yv.1 yv.2 hm
         have fy:(qi st).names.lookup yv.1=some .free:=S.free _ (by rw[<-hw];exact List.mem_map.mpr ⟨yv,hm,rfl⟩)
         exact⟨u,rv,.inr ⟨.inr fy,c2,a,o,hk _ _ (show qB P w H s.heap c2 (Xb o) from e0.hok c2 _ b).1,d⟩⟩
   . obtain⟨o,u,b,d⟩:=kn y c h
     exact⟨some u,o,hk _ _ (show qB P w H s.heap c (Xb o) from e0.hok c _ b).1,d⟩
   . obtain⟨o,u,b,d⟩:=kn y c h
     exact .inr ⟨rfl,o,b⟩
   . show (jU N (vs++ws.map (·.2))).length=N.length
     unfold jU
     rw[List.length_append,List.length_map,List.length_replicate,List.length_append,List.length_map]
     omega
 refine wpAny_mono (ht.to [] _ (jU N (vs++ws.map (·.2))) H _ I hq) (λfl s' hs=>?_) λe s' hs=>hs
 have fin:∀{σ':St} {H':Hp} {v:V} {u:Value},qr (V2 CX P w K mg base N qual (qi st) f (.ref c') cl A outer s H E) [] σ' H' s'->qJ v u->Q v H'->CE outer P w H s Q u s':=
   λ{σ' H' v u} J rv q=>⟨v,H',J.os,J.bare,J.base,J.hok,rv,q⟩
 cases fl with
 | ret u=>
   obtain⟨v,σ',H',J,rv,q⟩:=hs
   exact fin J rv q
 | next=>
   obtain⟨σ',H',J,q⟩:=hs
   exact fin (v:=V.non) (u:=Value.none) J rfl q
 | brk=>
   obtain⟨_,_,_,q⟩:=hs
   exact False.elim q
 | cont=>
   obtain⟨_,_,_,q⟩:=hs
   exact False.elim q
end
def vk (i:Nat) (C:Addr->FuncData->Sp->Prop) (E:St->XK) (t:TA):TE:=λσ H Q=>∃f fd sp,σ[i]?=some (some (.ref f))/\C f fd sp/\H f=some (Xb {cls:=.type "function",data:=.func fd})/\t σ H λvs H1=>H1 f=some (Xb {cls:=.type "function",data:=.func fd})/\sp vs H1 Q (E σ)
section
variable {X:Cx} {CX:ZI} {C:Addr->FuncData->Sp->Prop} {E:St->XK} {x:Str} {p pos:Pos} {e:Expr} {es:List Expr} {t:TA} {i:Nat}
theorem XY (hN:X.N[i]?=some x) (hv:u6 X.env.scope x) (hC:∀f fd sp,C f fd sp->∃(k:Nat) (ps:List Str),qp X.prog X.w X.K X.mg X.base CX k f fd ps sp/\qY k X.A/\jE X.K fd ps []) (hx:QY CX X E) (ha:JA X (e::es) t) (hdb:(x==("__debug__":Str))=false:=by decide) (hcd:(x==("__classdict__":Str))=false:=by decide) (he:starEach (e::es) X.env=(false,eval e X.env)::starEach es X.env:=by rfl) (hpl:(backTo pos (starEach es X.env)).any (·.1)=false:=by rfl):JE X (.Call (.Name x p) (e::es) [] pos) (vk i C E t):=.of (by
 have ha:=ha.to
 intro pins s σ H Q I h
 obtain⟨f,fd,sp,eσ,c,hf,h⟩:=h
 obtain⟨k,ps,F,hr,hb⟩:=hC f fd sp c
 refine wpAny_Call_Name_kw (je (vP hN hv hdb hcd pins s σ H (λv H'=>v=.ref f/\H'=H) I ⟨_,eσ,rfl,rfl⟩) λu s1 ⟨v,H1,I1,r1,e1,e2⟩=>?_)
 subst e1 e2
 cases r1
 have at_:∀{H2:Hp} {s2:Shared},qr X pins σ H2 s2->H2 f=some (Xb {cls:=.type "function",data:=.func fd})->PySem.W.FnAt f s2.heap:=λI2 q=>⟨_,_,fd,_,(show qB X.prog X.w _ _ f (Xb _) from I2.hok f _ q).1⟩
 exact PySem.W.callWith_F (at_ I1 hf) (je (ha pos pins s1 σ _ _ I1 h) λus s2 ⟨vs,H2,I2,r,q0,q⟩=>⟨at_ I2 q0,Vx F hr hb .nil hx I2 r (by simpa using q)⟩) he hpl)
end
end L2
set_option Elab.async false
set_option linter.all false
set_option maxRecDepth 100000
set_option maxHeartbeats 4000000
namespace L2
open PySem PySem.Spec PyProof.Rows
structure Wo where
 x:Str
 c:Addr
 P:Addr
 q:Str
def Qp (tabs:List Wo) (H:Hp):Hp:=λb=>match tabs.find? λq=>q.P==b with
 | some q=>some (.tbl #[.str q.q 0])
 | none=>H b
theorem J7 {tabs:List Wo} {H:Hp} {b:Addr} (h:∀q∈tabs,q.P≠b):Qp tabs H b=H b:=by
 unfold Qp
 cases e:tabs.find? λq=>q.P==b with
 | none=>rfl
 | some q=>exact absurd (beq_iff_eq.mp (List.find?_some (p:=λq:Wo=>q.P==b) e)) (h q (List.mem_of_find?_eq_some e))
theorem Zt {tabs:List Wo} {H:Hp} {b:Addr} {q:Wo} (h:q∈tabs) (e:q.P=b):∃q'∈tabs,q'.P=b/\Qp tabs H b=some (.tbl #[.str q'.q 0]):=by
 unfold Qp
 cases e2:tabs.find? λq=>q.P==b with
 | none=>exact absurd (beq_iff_eq.mpr e) (by simpa using List.find?_eq_none.mp e2 q h)
 | some q'=>exact⟨q',List.mem_of_find?_eq_some e2,beq_iff_eq.mp (List.find?_some (p:=λq:Wo=>q.P==b) e2),rfl⟩
theorem yE {tabs:List Wo} {H:Hp} (nd:(tabs.map (·.P)).Nodup) {q:Wo} (h:q∈tabs):Qp tabs H q.P=some (.tbl #[.str q.q 0]):=by
 obtain⟨q',h',e,r⟩:=Zt (H:=H) h rfl
 have:q'=q:=by
   have inj:∀{l:List Wo},(l.map (·.P)).Nodup->∀{a b:Wo},a∈l->b∈l->a.P=b.P->a=b:=by
     intro l
     induction l with
     | nil=>intro _ a b h;cases h
     | cons z l ih=>
       intro n a b ha hb e
       rw[List.map_cons,List.nodup_cons]at n
       rcases List.mem_cons.mp ha with ea | ha
       . rcases List.mem_cons.mp hb with eb | hb
         . rw[ea,eb]
         . exact absurd (List.mem_map.mpr ⟨b,hb,by rw[<-e,ea]⟩) n.1
       . rcases List.mem_cons.mp hb with eb | hb
         . exact absurd (List.mem_map.mpr ⟨a,ha,by rw[e,eb]⟩) n.1
         . exact ih n.2 ha hb e
   exact inj nd h' h e
 rw[r,this]
theorem UI {P:Program} {w:World} {K:PySem.W.Frag} {mg mb:Str->Option Value} {CX:ZI} {k:Nat} {fa a:Addr} {fd:FuncData} {x:Str} {sp:Sp} {s₁:Shared} {vs:List Value} {ns:List Int} {tabs:List Wo}
   (KX:K.In s₁.heap) (hns:s₁.heap.Ns mainGlobals mg) (hb:s₁.heap.Ns builtinsNs mb) (hbb:∀x:Str,x≠"__name__"->mb x=bootBuiltins x) (hlim:s₁.heap.NoLimit) (hg:s₁.gens=#[])
   (ha:s₁.heap.get? a=some {cls:=.type "list",data:=.seq vs.toArray}) (hi:IntsAre vs ns) (hl:ns.length<=sizeLine) (hr:qY k callerA)
   (hT:∀q∈tabs,PySem.W.CodeHd s₁.heap q.c q.P/\s₁.heap.get? q.P=some (PySem.W.tabObj #[])) (nd:(tabs.map (·.P)).Nodup) (hbl:∃bm o,mg "__builtins__"=some (.ref bm)/\bm≠builtinsNs/\bm≠mainGlobals/\s₁.heap.get? bm=some o/\o.cls=.type "module"/\o.dict=some builtinsNs/\o.data=.plain) (hnt:PySem.W.noTabs K=true)
   (F:∀base:Heap,K.In base->base.Ns mainGlobals mg->(∀q∈tabs,Xt mg base q.c q.P)->qp P w K mg base CX k fa fd [x] sp) (hbind:∀(s:Shared) (u:Value),BindsTo s fd ⟨[u],[]⟩ [(x,u)])
   (hsp:∀H:Hp,SqL K H a (ns.map V.int)->(∀q∈tabs,H q.P=some (.tbl #[.str q.q 0]))->sp [.ref a] H (λv _=>v=.bl true) λ_ _ _=>False)
   (hCX:∀H e s',CX [] H s₁ (λ_ _ _=>False) e s'->False):
   codeAny (model P w) callerA (.call (.ref fa) ⟨[.ref a],[]⟩) (λr s'=>r=.ok (.ret (.bool true))/\OldK s₁.heap s'.heap/\s'.os=s₁.os/\AllBare s'.gens) s₁:=by
 have rv:=Yj hi
 have lenV:=hi.length
 have naP:∀q∈tabs,q.P≠a:=λq hq z=>by
   have:=(hT q hq).2
   rw[z,ha]at this
   cases this
 have core:∀H0:Hp,RY H0->SqL K H0 a (ns.map V.int)->Q1 P w H0 s₁.heap->(∀b,H0 b≠none->b=a)->(H0 a≠none->K.lookup a=none)->
     codeAny (model P w) callerA (.call (.ref fa) ⟨[.ref a],[]⟩) (λr s'=>r=.ok (.ret (.bool true))/\OldK s₁.heap s'.heap/\s'.os=s₁.os/\AllBare s'.gens) s₁:=by
   intro H0 hO hS0 hok0 hA hK
   have hS:SqL K (Qp tabs H0) a (ns.map V.int):=by
     have e:Qp tabs H0 a=H0 a:=J7 naP
     rcases hS0 with (h | ⟨o,h⟩) | h
     . exact .inl (.inl (e.trans h))
     . exact .inl (.inr ⟨o,e.trans h⟩)
     . exact .inr h
   have cases_:∀b,Qp tabs H0 b≠none->b=a\/∃q∈tabs,q.P=b:=λb z=>by
     rcases Classical.em (∃q∈tabs,q.P=b) with h | h
     . exact .inr h
     . rw[J7 λq hq e=>h ⟨q,hq,e⟩]at z
       exact .inl (hA b z)
   have hok:Q1 P w (Qp tabs H0) s₁.heap:=λb u e=>by
     rcases Classical.em (∃q∈tabs,q.P=b) with ⟨q,hq,eq⟩ | h
     . obtain⟨q',hq',e',r⟩:=Zt (H:=H0) hq eq
       rw[r]at e
       cases e
       exact⟨#[],by rw[<-e'];exact(hT q' hq').2,True.intro,λpos cv z=>nomatch z⟩
     . rw[J7 λq hq e=>h ⟨q,hq,e⟩]at e
       have hb':b=a:=hA b (by rw[e];exact λz=>nomatch z)
       rcases hO b with z | ⟨o,xs,z⟩
       . rw[z]at e;cases e
       . rw[z]at e
         cases e
         obtain⟨h1,h2,its,n,h3,h4⟩:=(show qB P w H0 s₁.heap b (.frz o (.lst xs)) from hok0 b _ z)
         exact⟨h1,h2,its,n,h3,h4⟩
   have noT:∀{b:Addr} {o:Obj},s₁.heap.get? b=some o->o≠PySem.W.tabObj #[]->o≠{cls:=.type "list",data:=.seq vs.toArray}->Qp tabs H0 b=none:=λ{b o} e n1 n2=>by
     cases q:Qp tabs H0 b with
     | none=>rfl
     | some u=>
       rcases cases_ b (by rw[q];exact λz=>nomatch z) with z | ⟨t,ht,z⟩
       . rw[z,ha]at e
         exact absurd (Option.some.inj e).symm n2
       . have:=(hT t ht).2
         rw[z,e]at this
         exact absurd (Option.some.inj this) n1
   have base_of:∀{b:Addr} {o:Obj},s₁.heap.get? b=some o->Qp tabs H0 b=none->(Yg s₁.heap (Qp tabs H0)).get? b=some o:=λe n=>kW e n
   have nsK:∀{b:Addr} {m:Str->Option Value},s₁.heap.Ns b m->(Yg s₁.heap (Qp tabs H0)).Ns b m:=λ{b m} ⟨o,es,ep,e,d,r⟩=>⟨o,es,ep,base_of e (noT e (λz=>by rw[z]at d;cases d) (λz=>by rw[z]at d;cases d)),d,r⟩
   have hKb:K.In (Yg s₁.heap (Qp tabs H0)):=λb o e=>base_of (KX b o e) (by
     cases q:Qp tabs H0 b with
     | none=>rfl
     | some u=>
       rcases cases_ b (by rw[q];exact λz=>nomatch z) with z | ⟨t,ht,z⟩
       . have e1:Qp tabs H0 a=H0 a:=J7 naP
         rw[z,e1]at q
         rw[z,hK (by rw[q];exact λz=>nomatch z)]at e
         cases e
       . have:=(hT t ht).2
         rw[z,KX b o e]at this
         have h2:=List.all_eq_true.mp hnt (b,o) (PySem.W.mem_of_lookupK e)
         rw[Option.some.inj this]at h2
         exact absurd (show false=true from h2) Bool.false_ne_true)
   have hM:Mod K mg (Yg s₁.heap (Qp tabs H0)):=⟨hKb,nsK hns,⟨mb,nsK hb,hbb⟩,let ⟨mc,h1,h2⟩:=hlim;⟨mc,nsK h1,h2⟩⟩
   have hTM:∀q∈tabs,Xt mg (Yg s₁.heap (Qp tabs H0)) q.c q.P:=λq hq=>by
     refine⟨?_,?_⟩
     . obtain⟨o,vs',file,tf,flags,tg,inF,text,tt,e1,e2,r⟩:=(hT q hq).1
       exact⟨o,vs',file,tf,flags,tg,inF,text,tt,base_of e1 (noT e1 (λz=>by rw[z]at e2;cases e2) (λz=>by rw[z]at e2;exact absurd (show Value.type "list"=Value.type "code" from e2) (by decide))),e2,r⟩
     . obtain⟨bm,o,b1,b2,b3,b4,b5,b6,b7⟩:=hbl
       refine⟨bm,o,b1,b2,b3,λz=>?_,base_of b4 (noT b4 (λz=>by rw[z]at b5;cases b5) (λz=>by rw[z]at b5;exact absurd (show Value.type "list"=Value.type "module" from b5) (by decide))),b5,b6,b7⟩
       have:=(hT q hq).2
       rw[<-z,b4]at this
       cases this
       cases b5
   have e0:Wq P w K mg (Yg s₁.heap (Qp tabs H0)) callerA [] s₁ (Qp tabs H0):=⟨rfl,hM,λb o e=>xv e,Nat.le_of_eq (UR _ _),trivial,λb hb=>absurd (show b∈([]:List Addr) from hb) (by simp),hok,.of_eq hg⟩
   refine codeAny_mono ((F _ hKb (nsK hns) hTM).run callerA [] s₁ (Qp tabs H0) ⟨[.ref a],[]⟩ [.ref a] [.ref a] _ _ hr e0 (hbind s₁ (.ref a)) (.cons rfl .nil) (hsp _ hS λq hq=>yE nd hq)) λr s' h=>?_
   cases r with
   | error e=>exact(hCX _ e s' h).elim
   | ok fl=>
     cases fl with
     | next=>exact False.elim h
     | brk=>exact False.elim h
     | cont=>exact False.elim h
     | ret u=>
       obtain⟨v,H',os,bare,un,hok',r',q⟩:=h
       have q':v=.bl true:=q
       subst q'
       obtain rfl:u=Value.bool true:=r'
       have all:∀b o,s₁.heap.get? b=some o->s'.heap.get? b=some o\/∃t∈tabs,t.P=b/\∃ts,s'.heap.get? b=some (PySem.W.tabObj ts):=λb o e=>by
         rcases Classical.em (∃q∈tabs,q.P=b) with ⟨t,ht,et⟩ | h
         . obtain⟨t',ht',e',r⟩:=Zt (H:=H0) ht et
           obtain⟨m,z⟩:=un.tbls b _ r
           obtain⟨ts,z2,_⟩:=(show qB P w H' s'.heap b (.tbl _) from hok' b _ z)
           exact .inr ⟨t,ht,et,ts,z2⟩
         . have e1:Qp tabs H0 b=H0 b:=J7 λq hq e=>h ⟨q,hq,e⟩
           cases q:H0 b with
           | none=>exact .inl (un.keep b o e (e1.trans q) (by intro z;exact absurd (show b∈([]:List Addr) from z) (by simp)) (by simp))
           | some u=>
             rcases hO b with z | ⟨ob,xs,z⟩
             . rw[q]at z;cases z
             . have z2:=un.frzs b ob _ (e1.trans z)
               obtain⟨h1,_⟩:=hok0 b _ z
               obtain⟨h2,_⟩:=hok' b _ z2
               rw[e]at h1;cases h1
               exact .inl h2
       refine⟨rfl,⟨λb o e=>?_,λb o e=>?_⟩,os,bare⟩
       . rcases all b o e with z | ⟨t,ht,et,ts,z⟩
         . exact .inl z
         . have e2:=(hT t ht).2
           rw[et,e]at e2
           cases e2
           subst et
           exact .inr (.inl ⟨((hT t ht).1.tab (hT t ht).2).isCodeTable,rfl,#[],ts,rfl,by rw[Array.empty_append];exact z⟩)
       . rcases all b o e with z | ⟨t,ht,et,ts,z⟩
         . exact⟨_,z⟩
         . exact⟨_,z⟩
 cases hk:K.lookup a with
 | some o=>
   have e:=KX a o hk
   rw[ha]at e
   cases e
   refine core (λ_=>none) (λ_=>.inl rfl) (.inr ⟨_,vs.toArray,_,hk,rfl,rfl,rfl,by rw[List.size_toArray,lenV];exact hl,by simpa using rv⟩) (λb u z=>by have z':(none:Option HO)=some u:=z;cases z') (λb z=>absurd rfl z) λz=>absurd rfl z
 | none=>
   refine core (λb=>if b=a then some (.frz {cls:=.type "list",data:=.seq vs.toArray} (.lst (ns.map V.int))) else none) (λb=>?_) (.inl (.inr ⟨{cls:=.type "list",data:=.seq vs.toArray},if_pos rfl⟩)) (λb u z=>?_) (λb z=>?_) λ_=>hk
   . by_cases hb:b=a
     . exact .inr ⟨_,_,if_pos hb⟩
     . exact .inl (if_neg hb)
   . by_cases hb:b=a
     . have z':=(if_pos hb).symm.trans z
       cases z'
       subst hb
       exact⟨ha,by rw[List.length_map];exact hl,vs,_,rv,ha⟩
     . have z':=(if_neg hb).symm.trans z
       cases z'
   . by_cases hb:b=a
     . exact hb
     . exact absurd (if_neg hb) z
theorem walk_ofT {l:PySem.W.OpenLaw} {n k:Nat} {q:Program} {loose:List Str} {XP:(Str->Option Value)->Heap->Prop} {YP:World->Heap->Prop} {d:DefRec} {K:Params->PySem.W.Frag} {sp:PySem.W.Frag->List Wo->Sp} {x:Str} {ts:List Addr}
   (hn:l.most=some n) (hn2:n<=sizeLine) (hdf:d.params.defaults=[]) (hr:qY k callerA)
   (hY:∀(w:World) (h:Heap),YP w h->(K w.params).In h) (hTs:∀(w:World) (h:Heap),YP w h->∀P∈ts,h.get? P=some (PySem.W.tabObj #[])) (hnt:∀w:World,PySem.W.noTabs (K w.params)=true)
   (F:∀(w:World) (mg:Str->Option Value) (fa:Addr) (h:Heap),(K w.params).In h->h.Ns mainGlobals mg->mg d.name=some (.ref fa)->
     ∃(tabs:List Wo) (fd:FuncData),(tabs.map (·.P)).Nodup/\(∀t∈tabs,t.P∈ts/\PySem.W.codeHdIn (K w.params) t.c t.P=true)/\(∀(s:Shared) (u:Value),BindsTo s fd ⟨[u],[]⟩ [(x,u)])/\
      ∀base:Heap,(K w.params).In base->base.Ns mainGlobals mg->(∀t∈tabs,Xt mg base t.c t.P)->qp l.prog w (K w.params) mg base q5 k fa fd [x] (sp (K w.params) tabs))
   (hsp:∀(K:PySem.W.Frag) (tabs:List Wo) (H:Hp) (a:Addr) (ns:List Int),ns.length<=n->SqL K H a (ns.map V.int)->(∀q∈tabs,H q.P=some (.tbl #[.str q.q 0]))->sp K tabs [.ref a] H (λv _=>v=.bl true) λ_ _ _=>False):
   PySem.W.WalkO q loose XP YP l.row.toRowW d [] (λf vs=>PySem.call f vs):=by
 refine Att.attach_call hn hdf λw s₀ s₁ mg mb fa o pm cd doc a vs ns G Y ho hd hcd hmg hobj hints hlen hg=>?_
 have KX:=hY w _ Y
 obtain⟨tabs,fd,nd,ht,hb,hF⟩:=F w mg fa _ KX G.T.g hmg
 refine UI KX G.T.g G.T.b G.T.builtins G.T.nolimit hg hobj hints (Nat.le_trans hlen hn2) hr (tabs:=tabs) (λt hm=>⟨PySem.W.codeHd_of_K KX (ht t hm).2,hTs w _ Y _ (ht t hm).1⟩) nd ?_ (hnt w) hF hb (λH hS hP=>hsp _ _ H a ns hlen hS hP) λH e s' z=>z
 obtain⟨bm,ob,a1,a2,a3,a4,a5,a6⟩:=G.T.bmain
 refine⟨bm,ob,a1,a2,λz=>?_,a3,a4,a5,a6⟩
 obtain⟨o',es,ep,e,hd',_⟩:=G.T.g
 rw[z,e]at a3
 cases a3
 rw[hd']at a6
 cases a6
end L2
set_option Elab.async false
set_option linter.all false
set_option maxRecDepth 100000
set_option maxHeartbeats 4000000
namespace L2
open PySem PySem.Spec PyProof.Rows
mutual
inductive DG (H:Hp):V->PyData->Prop
 | non:DG H .non .none
 | bl (b:Bool):DG H (.bl b) (.bool b)
 | int (i:Int):DG H (.int i) (.int i)
 | str (x:Str):DG H (.str x) (.str x)
 | lst {a:Addr} {xs:List V} {ds:List PyData}:H a=some (.lst xs)->a≠sysModules->DGs H xs ds->DG H (.ref a) (.list ds)
 | tup {a:Addr} {xs:List V} {ds:List PyData}:H a=some (.tup xs)->DGs H xs ds->DG H (.ref a) (.tuple ds)
 | dct0 {a:Addr}:H a=some (.dK [])->DG H (.ref a) (.dict [])
 | dct1 {a:Addr} {z:Str} {i:Int}:H a=some (.dK [(Sum.inr z,.int i)])->DG H (.ref a) (.dict [(.str z,.int i)])
inductive DGs (H:Hp):List V->List PyData->Prop
 | nil:DGs H [] []
 | cons {x:V} {xs:List V} {d:PyData} {ds:List PyData}:DG H x d->DGs H xs ds->DGs H (x::xs) (d::ds)
end
section
variable {X:Cx} {pins:List (Addr×Obj)} {σ:St} {H:Hp} {s:Shared}
end
section
variable {X:Cx}
end
end L2
set_option Elab.async false
set_option linter.all false
set_option maxRecDepth 100000
set_option maxHeartbeats 4000000
namespace Rh
open PySem L2
def top (i:Nat):Stmt:=PySem.Challenge.pw_ringheaps_k23_plays_of_two.main.body.getD i (.Pass ⟨0,0,0,0⟩)
abbrev Zc:Stmt:=top 12
abbrev Vw:Stmt:=top 37
abbrev Z0:Stmt:=top 38
abbrev Zb:Stmt:=top 39
abbrev zm:Stmt:=top 40
abbrev zo:Stmt:=top 41
abbrev Vs:Stmt:=top 42
abbrev YZ:Stmt:=top 51
end Rh
namespace Rh
open PySem L2 PyProof.Rows
structure jC (K:PySem.W.Frag) (mg:Str->Option Value) (x:Str) (st:Stmt) (ps:List Str) (f:Addr) (fd:FuncData):Prop where
 fn:Qa K x x st f fd
 ns:mg x=some (.ref f)
 bi:jE K fd ps []
theorem qP {X:Cx} {x:Str} {st:Stmt} {ps:List Str} {f:Addr} {fd:FuncData} {k:Nat} {sp:Sp} {e:Expr} {es:List Expr} {t:TA} {p pos:Pos} (h:jC X.K X.mg x st ps f fd) (G:qp X.prog X.w X.K X.mg X.base q5 k f fd ps sp) (hr:qY k X.A)
   (hg:Gl X x) (ha:JA X (e::es) t) (hdb:(x==("__debug__":Str))=false:=by decide) (he:starEach (e::es) X.env=(false,eval e X.env)::starEach es X.env:=by rfl) (hpl:(backTo pos (starEach es X.env)).any (·.1)=false:=by rfl):
   JE X (.Call (.Name x p) (e::es) [] pos) (zd sp [] E0 t):=.of (VF G hr hg h.ns h.fn.kp h.bi .nil Zg ha.to hdb he hpl)
theorem qo {H:Hp} {b p:Addr} {o o':HO} (h:H b=some o) (hp:H p=none):upd H p o' b=some o:=by
 rw[qg (qm h hp)]
 exact h
theorem qk {H:Hp} {p:Addr} {o:HO} (hp:H p=none):Same H (upd H p o):=λb u h=>qo h hp
theorem Same.upd {H H':Hp} {p:Addr} {o:HO} (s:Same H H') (hp:H p=none):Same H (upd H' p o):=λb u h=>by
 rw[qg (qm h hp)]
 exact s b u h
def src (n s t:Int):List (qQ×V):=[(Sum.inr "number",.int n),(Sum.inr "seed",.int s),(Sum.inr "turn",.int t)]
theorem nns:¬(Str.ofString "number")=Str.ofString "seed":=by decide+kernel
theorem Rz:¬(Str.ofString "number")=Str.ofString "turn":=by decide+kernel
theorem Ry:¬(Str.ofString "seed")=Str.ofString "turn":=by decide+kernel
theorem nsn:¬(Str.ofString "seed")=Str.ofString "number":=by decide+kernel
theorem ntn:¬(Str.ofString "turn")=Str.ofString "number":=by decide+kernel
theorem nts:¬(Str.ofString "turn")=Str.ofString "seed":=by decide+kernel
theorem QK {a b:Str} (h:¬a=b):¬(Sum.inr a:qQ)=Sum.inr b:=λe=>h (Sum.inr.inj e)
section
variable {H:Hp} {d:Addr} {n s t:Int}
theorem gN (h:H d=some (.dK (src n s t))):Qj H d (.str "number") (some (.int n)):=by
 have e:js (src n s t) (Sum.inr "number":qQ)=some (.int n):=qK rfl
 have q:=Qj.k (k:=(Sum.inr "number":qQ)) h
 rw[e]at q
 exact q
theorem gS (h:H d=some (.dK (src n s t))):Qj H d (.str "seed") (some (.int s)):=by
 have e:js (src n s t) (Sum.inr "seed":qQ)=some (.int s):=(qG (QK nns)).trans (qK rfl)
 have q:=Qj.k (k:=(Sum.inr "seed":qQ)) h
 rw[e]at q
 exact q
theorem gT (h:H d=some (.dK (src n s t))):Qj H d (.str "turn") (some (.int t)):=by
 have e:js (src n s t) (Sum.inr "turn":qQ)=some (.int t):=(qG (QK Rz)).trans ((qG (QK Ry)).trans (qK rfl))
 have q:=Qj.k (k:=(Sum.inr "turn":qQ)) h
 rw[e]at q
 exact q
theorem Kr:(src n s t).length < sizeLine:=qu (by show 3<=1000;decide)
theorem pN (h:H d=some (.dK (src n s t))) (v:Int):JD H d (.str "number") (.int v) (upd H d (.dK (src v s t))):=by
 have e:jD (src n s t) (Sum.inr "number":qQ) (.int v)=src v s t:=by
   unfold jD src
   simp [nsn,ntn]
 have q:=JD.k (k:=(Sum.inr "number":qQ)) (v:=.int v) h Kr
 rw[e]at q
 exact q
theorem pT (h:H d=some (.dK (src n s t))) (v:Int):JD H d (.str "turn") (.int v) (upd H d (.dK (src n s v))):=by
 have e:jD (src n s t) (Sum.inr "turn":qQ) (.int v)=src n s v:=by
   unfold jD src
   simp [Rz,Ry]
 have q:=JD.k (k:=(Sum.inr "turn":qQ)) (v:=.int v) h Kr
 rw[e]at q
 exact q
end
def Q7:Sp:=λvs H Q _=>∃(d:Addr) (m n s t:Int),vs=[.ref d,.int m]/\H d=some (.dK (src n s t))/\0 < m/\m.natAbs < 2^200/\∀r n' t',0<=r->r < m->Q (.int r) (upd H d (.dK (src n' s t')))
def XE:Sp:=λvs H Q _=>∃c:Int,vs=[.int c]/\∀d n s,H d=none->Q (.ref d) (upd H d (.dK (src n s 0)))
def vy (K:PySem.W.Frag):Sp:=λvs H Q _=>∃(a:Addr) (ns:List Int) (k:Int),vs=[.ref a,.int k]/\SqL K H a (ns.map V.int)/\0<=k/\∀v,Q (.int v) H
section
variable {P:Program} {w:World} {K:PySem.W.Frag} {mg:Str->Option Value} {base:Heap}
theorem YX:qA ["_law_source_here","_law_many","_law_digit","_law_number"] ["_law_source_here","_law_many"] (qi Zb):=⟨rfl,rfl,rfl,by decide+kernel,rfl,by decide+kernel,by decide+kernel⟩
theorem Jn {f:Addr} {fd:FuncData} (F:Qa K "_law_take" "_law_take" Zb f fd):qp P w K mg base q5 1 f fd ["_law_source_here","_law_many"] Q7:=by
 refine F.okJ YX (λvs H Q E h=>?_) (λcdv A outer s H vs Q E hr h=>?_)
 . obtain⟨d,m,n,sd,t,rfl,_⟩:=h
   rfl
 . obtain⟨d,m,n,sd,t,rfl,hd,m0,m1,k⟩:=h
   have hu:=JN hr
   refine⟨_,qh (jd (qv XO (jm hu (jv 0) qx (λ_ _=>rfl)) qj (qy _))
       (qh (qt (i:=2) YX.nd rfl (Or.inl rfl) (qM jQ (jm hu (jv 0) qx (λ_ _=>rfl)) (jv 1)))
       (qh (j5 hu (jv 0) qx (qM vY (jm hu (jv 0) qx (λ_ _=>rfl)) (jv 1)) rfl)
       (ql (qH (jv 2))))) qD)
     (qh (j5 hu (jv 0) qx (qM j4 (jm hu (jv 0) qx (λ_ _=>rfl)) qj) rfl)
     (qh (qt (i:=3) YX.nd rfl (Or.inl rfl) (qM jQ (qM Qq (qM j4 (jm hu (jv 0) qx (λ_ _=>rfl)) (qM Qq qj (jm hu (jv 0) qx (λ_ _=>rfl)))) qj) qj))
     (qh (qt (i:=3) YX.nd rfl (Or.inl rfl) (qM jQ (qM Qq (jv 3) (jv 3)) qj))
     (ql (qH (qM jQ (qM xj (qM jQ (qM Qq (qM j4 (jv 3) (jm hu (jv 0) qx (λ_ _=>rfl))) (qM j4 (jv 3) qj)) qj) qj) (jv 1))))))),?_⟩
   refine⟨_,rfl,d,_,rfl,gN hd,_,_,rfl,rfl,_,rfl,?_⟩
   refine WU (λ_=>?_) (λ_=>?_)
   . refine⟨_,rfl,d,_,rfl,gN hd,_,rfl,_,_,rfl,rfl,m0,?_⟩
     refine⟨_,rfl,d,_,rfl,gN hd,_,rfl,_,_,rfl,rfl,⟨m0,m1⟩,_,rfl,d,_,rfl,pN hd _,?_⟩
     exact⟨_,rfl,k _ _ _ (Int.emod_nonneg _ (by omega)) (Int.emod_lt_of_pos _ m0)⟩
   . refine⟨_,rfl,d,_,rfl,gT hd,_,_,rfl,rfl,_,rfl,d,_,rfl,pT hd _,?_⟩
     have h1:upd H d (.dK (src n sd (t+1))) d=some (.dK (src n sd (t+1))):=qd
     refine⟨_,rfl,d,_,rfl,gS h1,_,rfl,d,_,rfl,gT h1,_,_,rfl,rfl,.inl ⟨by decide,by decide⟩,_,_,rfl,rfl,_,_,rfl,rfl,.inr ⟨by decide,by decide⟩,_,_,rfl,rfl,(by show (0:Int) < 2147483647;decide),?_⟩
     generalize ha:((sd+7919*(t+1))*48271) % 2147483647=x
     have x0:0<=x:=by rw[<-ha];exact Int.emod_nonneg _ (by decide)
     have x1:x < 2147483647:=by rw[<-ha];exact Int.emod_lt_of_pos _ (by decide)
     refine⟨_,rfl,_,rfl,_,_,rfl,rfl,.inl ⟨by omega,by omega⟩,_,_,rfl,rfl,(by show (0:Int) < 2147483629;decide),?_⟩
     generalize hb:(x*x) % 2147483629=y
     have y0:0<=y:=by rw[<-hb];exact Int.emod_nonneg _ (by decide)
     have y1:y < 2147483629:=by rw[<-hb];exact Int.emod_lt_of_pos _ (by decide)
     refine⟨_,rfl,_,rfl,d,_,rfl,gT h1,_,_,rfl,rfl,_,rfl,_,_,rfl,rfl,_,_,rfl,rfl,.inr ⟨by omega,by omega⟩,_,_,rfl,rfl,(by show (0:Int) < 2147483587;decide),_,_,rfl,rfl,⟨by decide,by decide⟩,_,rfl,_,_,rfl,rfl,m0,?_⟩
     exact k _ _ _ (Int.emod_nonneg _ (by omega)) (Int.emod_lt_of_pos _ m0)
end
end Rh
namespace Rh
open PySem L2 PyProof.Rows
structure JF (mg:Str->Option Value):Prop where
 len:mg "len"=none
 max:mg "max"=none
 min:mg "min"=none
 int:mg "int"=none
 rng:mg "range"=none
theorem UG (n s t:Int):jw [] (src n s t)=src n s t:=by
 unfold jw src
 simp only[List.foldl_cons,List.foldl_nil]
 unfold jD
 simp [nns,Rz,Ry,nsn,ntn,nts]
section
variable {P:Program} {w:World} {K:PySem.W.Frag} {mg:Str->Option Value} {base:Heap}
theorem vC:qA ["_law_cell"] ["_law_cell"] (qi Z0):=⟨rfl,rfl,rfl,by decide+kernel,rfl,by decide+kernel,by decide+kernel⟩
theorem Uy {f:Addr} {fd:FuncData} (F:Qa K "_law_source" "_law_source" Z0 f fd) (B:JF mg):qp P w K mg base q5 1 f fd ["_law_cell"] XE:=by
 refine F.okJ vC (λvs H Q E h=>?_) (λcdv A outer s H vs Q E hr h=>?_)
 . obtain⟨c,rfl,_⟩:=h
   rfl
 . obtain⟨c,rfl,k⟩:=h
   refine⟨_,ql (qH (Xk
     (Qe qx (qM Qq (qw (YK rfl) (by rfl) B.max boot_max (qb qj (qb (jv 0) qe)))
       (qR ZG (by rfl) B.int boot_int (qb (Qn vX (jv 0) (qM ua qj qj) (qy _)) qe)))
     (Qe qx (qM jQ (jv 0) qj) (Qe qx qj Xf))) rfl rfl (by simp) (by decide))),?_⟩
   intro p hp
   refine⟨_,rfl,_,_,rfl,_,rfl,_,_,rfl,rfl,⟨by decide,by decide,by decide⟩,_,_,rfl,rfl,.inr ⟨_,rfl,_,_,rfl,rfl,.inr ?_,_,rfl,_,_,rfl,rfl,(by show (0:Int) < 2147483629;decide),?_⟩⟩
   . split<;>exact⟨by decide,by decide⟩
   . refine⟨qd,src _ _ 0,rfl,(by show 3<=15;decide),?_⟩
     rw[UG,jN]
     exact k p _ _ hp
theorem wT:qA ["_law_script","_law_k"] ["_law_script","_law_k"] (qi Vw):=⟨rfl,rfl,rfl,by decide+kernel,rfl,by decide+kernel,by decide+kernel⟩
theorem xu {f:Addr} {fd:FuncData} (F:Qa K "_law_cell_at" "_law_cell_at" Vw f fd) (B:JF mg):qp P w K mg base q5 1 f fd ["_law_script","_law_k"] (vy K):=by
 refine F.okJ wT (λvs H Q E h=>?_) (λcdv A outer s H vs Q E hr h=>?_)
 . obtain⟨a,ns,k,rfl,_⟩:=h
   rfl
 . obtain⟨a,ns,k,rfl,hS,k0,q⟩:=h
   refine⟨_,qh (jd (qv j3 (jv 1) (qw qz (by rfl) B.len boot_len (qb (jv 0) qe)) (qy _))
       (ql (qH (qW jg (jv 0) (jv 1) (λ_ _=>rfl)))) qD)
     (ql (qH (qM j4 (qM Qq qj (jv 1)) qj))),?_⟩
   refine⟨_,rfl,_,rfl,a,_,rfl,.inl hS,_,_,rfl,rfl,_,rfl,?_⟩
   refine WU (λh=>?_) (λ_=>?_)
   . have h1:k < ((ns.map V.int).length:Int):=of_decide_eq_true h
     rw[List.length_map]at h1
     have h2:k.toNat < ns.length:=by omega
     have h3:(ns.map V.int)[k.toNat]?=some (V.int ns[k.toNat]):=by rw[List.getElem?_map,List.getElem?_eq_getElem h2];rfl
     have h4:k=((k.toNat:Nat):Int):=by omega
     refine⟨_,rfl,_,rfl,a,_,k,V.int ns[k.toNat],rfl,rfl,hS,?_,q _⟩
     have h5:=Zq h3
     rw[<-h4]at h5
     exact h5
   . exact⟨_,rfl,_,_,rfl,rfl,.inl ⟨by decide,by decide⟩,_,_,rfl,rfl,q _⟩
end
end Rh
set_option Elab.async false
set_option linter.all false
set_option maxRecDepth 100000
set_option maxHeartbeats 4000000
namespace Rh
open PySem L2 PyProof.Rows
def Fr (H:Hp) (d:Addr) (H':Hp):Prop:=∀b o,H b=some o->b≠d->H' b=some o
theorem Fr.refl {H:Hp} {d:Addr}:Fr H d H:=λ_ _ h _=>h
theorem Fr.at_d {H H':Hp} {d:Addr} {o:HO} (h:Fr H d H'):Fr H d (upd H' d o):=λb u hb hn=>by
 rw[qg hn]
 exact h b u hb hn
theorem Fr.new {H H':Hp} {d p:Addr} {o:HO} (h:Fr H d H') (hp:H' p=none):Fr H d (upd H' p o):=λb u hb hn=>qo (h b u hb hn) hp
theorem Fr.own {H H':Hp} {d p:Addr} {o:HO} (h:Fr H d H') (hp:H p=none):Fr H d (upd H' p o):=λb u hb hn=>by
 rw[qg (qm hb hp)]
 exact h b u hb hn
theorem Fr.trans {H H' H'':Hp} {d:Addr} (h:Fr H d H') (k:Fr H' d H''):Fr H d H'':=λb u hb hn=>k b u (h b u hb hn) hn
theorem Fr.fresh {H H':Hp} {d p:Addr} {o:HO} (h:Fr H d H') (hd:H' d=some o) (hp:H' p=none):H p=none:=by
 cases e:H p with
 | none=>rfl
 | some u=>
   by_cases n:p=d
   . subst n
     rw[hd]at hp
     cases hp
   . rw[h p u e n]at hp
     cases hp
def jF (c:Nat):Bool:=decide (97<=c)&&decide (c<=122)
def qN (z:Str):Bool:=(decide (1<=z.length)&&decide (z.length<=8))&&z.cps.toList.all jF
def V8:Str:="abcdefghijklmnopqrstuvwxyz"
theorem YS:V8.cps.toList=[97,98,99,100,101,102,103,104,105,106,107,108,109,110,111,112,113,114,115,116,117,118,119,120,121,122]:=by decide+kernel
theorem yj:V8.cps.toList=(List.range 26).map (97+·):=by rw[YS];rfl
theorem V7:V8.length<=sizeLine:=by
 show V8.cps.size<=sizeLine
 rw[<-Array.length_toList,YS]
 decide
theorem yk {r:Int} (h0:0<=r) (h1:r < 26):Z9 V8.cps.toList r=some (97+r.toNat):=by
 have h2:V8.cps.toList[r.toNat]?=some (97+r.toNat):=by
   rw[yj,List.getElem?_map,List.getElem?_range (by omega)]
   rfl
 have h4:=Zq h2
 have h5:r=((r.toNat:Nat):Int):=by omega
 rw[<-h5]at h4
 exact h4
theorem Yz {r:Int} (h0:0<=r) (h1:r < 26):jF (97+r.toNat)=true:=by
 unfold jF
 rw[decide_eq_true (by omega:97<=97+r.toNat),decide_eq_true (by omega:97+r.toNat<=122)]
 rfl
theorem uD (ws:List Nat):(Txt.join (Str.ofString "") (ws.map λk=>(⟨#[k]⟩:Str))).cps.toList=ws:=by
 show (Builtin.Str.glued (Str.ofString "") _).cps.toList=_
 rw[StrLaws.glued_eq_join]
 have e:(Str.ofString "")=⟨#[]⟩:=by decide+kernel
 rw[e,PyProof.Rows.join_ones]
theorem UN {z:Str} {A B:List Nat} {c:Nat} (e:z.cps.toList=A++[c]++B) (hA:A.all jF=true) (hc:jF c=true) (hB:B.all jF=true) (hl:A.length+B.length<=7):qN z=true:=by
 have l:z.length=A.length+1+B.length:=by
   show z.cps.size=_
   rw[<-Array.length_toList,e]
   simp
   omega
 unfold qN
 rw[decide_eq_true (by omega:1<=z.length),decide_eq_true (by omega:z.length<=8),e,List.all_append,List.all_append,hA,hB]
 simp [hc]
def VH (f s:Int) (k:Nat):Nat:=97+((f+s*(k:Int)) % 26).toNat
theorem xz:∀s∈[(1:Int),3,5,7,9,11],∀k,k < 14->∀j,j < 14->(s*((k:Nat):Int) - s*((j:Nat):Int)) % 26=0->k=j:=by decide+kernel
theorem xy {f s:Int} {k j:Nat} (hs:s=1\/s=3\/s=5\/s=7\/s=9\/s=11) (hk:k < 14) (hj:j < 14) (h:VH f s k=VH f s j):k=j:=by
 unfold VH at h
 refine xz s (by simpa using hs) k hk j hj ?_
 generalize s*(k:Int)=x at h ⊢
 generalize s*(j:Int)=y at h ⊢
 omega
def Qy (A:List Nat) (f s:Int) (zs:List Str):Prop:=∀j z,zs[j]?=some z->∃B,z.cps.toList=A++[VH f s j]++B/\B.all jF=true/\A.length+B.length<=7
theorem Qy.snoc {A:List Nat} {f s:Int} {zs:List Str} (h:Qy A f s zs) {z:Str} {B:List Nat} (e:z.cps.toList=A++[VH f s zs.length]++B) (hB:B.all jF=true) (hl:A.length+B.length<=7):Qy A f s (zs++[z]):=by
 intro j y hy
 by_cases hj:j < zs.length
 . rw[List.getElem?_append_left hj]at hy
   exact h j y hy
 . have hj':j=zs.length:=by
     have:=(List.getElem?_eq_some_iff.mp hy).1
     rw[List.length_append,List.length_singleton]at this
     omega
   subst hj'
   rw[List.getElem?_append_right (Nat.le_refl _),Nat.sub_self]at hy
   obtain rfl:=(Option.some.inj hy).symm
   exact⟨B,e,hB,hl⟩
theorem Qy.names {A:List Nat} {f s:Int} {zs:List Str} (h:Qy A f s zs) (hA:A.all jF=true):∀z∈zs,qN z=true:=λz hz=>by
 obtain⟨j,hj⟩:=List.getElem?_of_mem hz
 obtain⟨B,e,hB,hl⟩:=h j z hj
 refine UN e hA ?_ hB hl
 unfold VH
 exact Yz (Int.emod_nonneg _ (by decide)) (Int.emod_lt_of_pos _ (by decide))
theorem Qy.nodup {A:List Nat} {f s:Int} {zs:List Str} (h:Qy A f s zs) (hs:s=1\/s=3\/s=5\/s=7\/s=9\/s=11) (hz:zs.length<=14):zs.Nodup:=by
 refine List.pairwise_iff_getElem.mpr λi j hi hj hij e=>?_
 obtain⟨B,b1,_⟩:=h j _ (List.getElem?_eq_getElem hj)
 obtain⟨C,c1,_⟩:=h i _ (List.getElem?_eq_getElem hi)
 rw[e]at c1
 have e2:(A++[VH f s j]++B)[A.length]?=(A++[VH f s i]++C)[A.length]?:=by rw[<-b1,<-c1]
 rw[List.append_assoc,List.append_assoc,List.getElem?_append_right (Nat.le_refl _),List.getElem?_append_right (Nat.le_refl _),Nat.sub_self]at e2
 have e3:VH f s j=VH f s i:=Option.some.inj e2
 exact absurd (xy hs (by omega) (by omega) e3) (by omega)
theorem Wn {A:List Nat} (h:A.all jF=true) (n:Nat):(A.take n).all jF=true:=by
 rw[List.all_eq_true]at h ⊢
 exact λx hx=>h x (List.mem_of_mem_take hx)
theorem wP {r:Int} (h0:0<=r) (h1:r < 6):∃m:Int,(m=1\/m=3\/m=5\/m=7\/m=9\/m=11)/\Z9 [V.int 1,V.int 3,V.int 5,V.int 7,V.int 9,V.int 11] r=some (.int m):=by
 have:r=0\/r=1\/r=2\/r=3\/r=4\/r=5:=by omega
 rcases this with rfl | rfl | rfl | rfl | rfl | rfl
 . exact⟨1,by decide,rfl⟩
 . exact⟨3,by decide,rfl⟩
 . exact⟨5,by decide,rfl⟩
 . exact⟨7,by decide,rfl⟩
 . exact⟨9,by decide,rfl⟩
 . exact⟨11,by decide,rfl⟩
def Vm:Sp:=λvs H Q _=>∃(d:Addr) (m:Nat) (n s t:Int),vs=[.ref d,.int m]/\H d=some (.dK (src n s t))/\m<=14/\
 ∀(l:Addr) (zs:List Str) (n' t':Int) (H':Hp),H l=none->H' l=some (.lst (zs.map V.str))->zs.length=m->(∀z∈zs,qN z=true)->zs.Nodup->H' d=some (.dK (src n' s t'))->Fr H d H'->Q (.ref l) H'
theorem XD:∀zs:List Str,(zs.map λ_=>1).sum=zs.length
 | []=>rfl
 | z::zs=>by rw[List.map_cons,List.sum_cons,XD zs,List.length_cons];omega
section
variable {P:Program} {w:World} {K:PySem.W.Frag} {mg:Str->Option Value} {base:Heap}
abbrev uo:List Str:=["_law_source_here","_law_many","_law_letters","_law_word","_law_ahead","_law_first","_law_step","_law_names_here","_law_k","_law_behind"]
theorem Ql:qA uo ["_law_source_here","_law_many"] (qi zm):=⟨rfl,rfl,rfl,by decide+kernel,rfl,by decide+kernel,by decide+kernel⟩
theorem kc {f fT:Addr} {fd fdT:FuncData} (F:Qa K "_law_names" "_law_names" zm f fd) (B:JF mg) (hT:jC K mg "_law_take" Zb ["_law_source_here","_law_many"] fT fdT):qp P w K mg base q5 2 f fd ["_law_source_here","_law_many"] Vm:=by
 have GT:qp P w K mg base q5 1 fT fdT ["_law_source_here","_law_many"] Q7:=Jn hT.fn
 refine F.okJ Ql (λvs H Q E h=>?_) (λcdv A outer s H vs Q E hr h=>?_)
 . obtain⟨d,m,n,sd,t,rfl,_⟩:=h
   rfl
 . obtain⟨d,m,n,sd,t,rfl,hd,hm,q⟩:=h
   refine⟨_,qh (qt (i:=2) Ql.nd rfl (Or.inr rfl) qx)
     (qh (qt (i:=3) Ql.nd rfl (Or.inl rfl) (Q0 PySem.F.plainAttrs_str PySem.F.slot_str_join PySem.F.type_str_join xC qx (qb
       (Zk (N':=["_law_k","_law_letters","_law_source_here"]) (ix:=[none,some 2,some 0]) rfl ⟨rfl,rfl,rfl,rfl,rfl⟩
         (jO (by rfl) B.rng (qb qj qe))
         (λC s2 H2 fp pins=>⟨qF (i:=0) (show (["_law_k","_law_letters","_law_source_here"]:List Str).Nodup by decide+kernel) rfl (Or.inl rfl),Qc,
           qW kP (jv 1) (qP hT GT hr (by rfl) (qb (jv 2) (qb qj qe))) (λ_ _=>rfl)⟩)) qe)))
     (qh (qt (i:=4) Ql.nd rfl (Or.inl rfl) (zK vA (jv 3) Xh (Xg (qM Qq (qP hT GT hr (by rfl) (qb (jv 0) (qb qj qe))) (qP hT GT hr (by rfl) (qb (jv 0) (qb qj qe)))))))
     (qh (qt (i:=5) Ql.nd rfl (Or.inl rfl) (qP hT GT hr (by rfl) (qb (jv 0) (qb qj qe))))
     (qh (qt (i:=6) Ql.nd rfl (Or.inl rfl) (qW jg (qO (qb qj (qb qj (qb qj (qb qj (qb qj (qb qj qe))))))) (qP hT GT hr (by rfl) (qb (jv 0) (qb qj qe))) (λ_ _=>rfl)))
     (qh (qt (i:=7) Ql.nd rfl (Or.inl rfl) (qO qe))
     (qh (j0 PassesOwn.never rfl (jO (by rfl) B.rng (qb (jv 1) qe)) (qF (i:=8) Ql.nd rfl (Or.inl rfl))
       (qh (qt (i:=9) Ql.nd rfl (Or.inl rfl) (zK vA (jv 3) Xh (Xg (qP hT GT hr (by rfl) (qb (jv 0) (qb (qM w9 qj (qw QX (by rfl) B.len boot_len (qb (jv 4) qe))) qe))))))
       (ql (qV (Q0 PySem.F.plainAttrs_list PySem.F.slot_list_append PySem.F.type_list_append ju (jv 7) (qb
         (qM zx (qM zx (jv 4) (qW kP (jv 2) (qM jQ (qM j4 (jv 5) (qM Qq (jv 6) (jv 8))) qj) (λ_ _=>rfl))) (jv 9)) qe))))))
     (ql (qH (jv 7))))))))),?_⟩
   refine⟨rfl,7,rfl,by decide,by decide,λD hD=>?_⟩
   have nDd:D≠d:=λe=>by rw[e,hd]at hD;cases hD
   refine Jv (λi σ' H'=>∃(v:Option V) (n' t':Int) (ws:List Nat),σ'=[v,some (.str V8),some (.ref d)]/\H' d=some (.dK (src n' sd t'))/\H' D=some (.lst ((ws.map λk=>(⟨#[k]⟩:Str)).map V.str))/\ws.length=i/\ws.all jF=true/\Fr H d H')
     ⟨none,n,t,[],rfl,qo hd hD,qd,rfl,rfl,Fr.refl.new hD⟩ ?_ ?_
   . rintro i σ' H' hi ⟨v,n',t',ws,rfl,hd',hD',hl,ha,fr⟩
     refine⟨_,rfl,_,rfl,d,26,n',sd,t',rfl,hd',by decide,by decide,λr n3 t3 r0 r1=>?_⟩
     refine⟨V8,r,_,rfl,rfl,V7,yk r0 r1,_,(by rw[qg nDd];exact hD'),?_,?_⟩
     . rw[List.length_map,List.length_map,hl]
       exact qu (by omega)
     . refine⟨_,n3,t3,ws++[97+r.toNat],rfl,?_,?_,?_,?_,?_⟩
       . rw[qg (Ne.symm nDd)];exact qd
       . rw[List.map_append,List.map_append];exact qd
       . rw[List.length_append,hl];rfl
       . rw[List.all_append,ha]
         simp [Yz r0 r1]
       . exact(fr.at_d).own hD
   rintro σ' H1 ⟨v,n1,t1,ws,rfl,hd1,hD1,hl1,ha1,fr1⟩
   have hl1:ws.length=7:=hl1
   refine⟨Str.ofString "",D,_,rfl,rfl,.of hD1,?_,?_⟩
   . have e1:((ws.map λk=>(⟨#[k]⟩:Str)).map (·.length))=(ws.map λk=>(⟨#[k]⟩:Str)).map λ_=>1:=by
       refine List.map_congr_left λz hz=>?_
       obtain⟨c,_,rfl⟩:=List.mem_map.mp hz
       rfl
     have e2:(Str.ofString "").length=0:=by decide+kernel
     rw[e1,e2,XD,List.length_map,hl1]
     decide
   generalize hw:Txt.join (Str.ofString "") (ws.map λk=>(⟨#[k]⟩:Str))=wd
   have hW:wd.cps.toList=ws:=by rw[<-hw];exact uD ws
   have hWl:wd.length=7:=by
     show wd.cps.size=7
     rw[<-Array.length_toList,hW,hl1]
   refine⟨_,rfl,_,rfl,d,2,n1,sd,t1,rfl,hd1,by decide,by decide,λr2 n2 t2 r20 r21=>?_⟩
   refine⟨_,rfl,d,5,n2,sd,t2,rfl,qd,by decide,by decide,λr3 n3 t3 r30 r31=>?_⟩
   rw[jN]
   have e4:∃j:Nat,r2*r3=(j:Int)/\j<=4:=by
     have h2:r2=0\/r2=1:=by omega
     rcases h2 with rfl | rfl
     . exact⟨0,by omega,by omega⟩
     . exact⟨r3.toNat,by omega,by omega⟩
   obtain⟨j,ej,hj⟩:=e4
   refine⟨_,_,rfl,rfl,.inl ⟨by omega,by omega⟩,_,rfl,wd,r2*r3,rfl,rfl,rfl,by omega,?_⟩
   rw[ej]
   generalize ha:Txt.slice wd none (some (j:Int))=ah
   have hA:ah.cps.toList=ws.take j:=by rw[<-ha,zj,hW]
   have hAl:ah.length=j:=by
     show ah.cps.size=j
     rw[<-Array.length_toList,hA,List.length_take,hl1]
     omega
   refine⟨_,rfl,d,26,n3,sd,t3,rfl,qd,by decide,by decide,λf n4 t4 f0 f1=>?_⟩
   rw[jN]
   refine⟨by show 6<=sizeLine;decide,λp hp=>?_⟩
   have npd:p≠d:=λe=>by rw[e,qd]at hp;cases hp
   refine⟨_,rfl,d,6,n4,sd,t4,rfl,(by rw[qg (Ne.symm npd)];exact qd),by decide,by decide,λr5 n5 t5 r50 r51=>?_⟩
   obtain⟨st,hst,hsa⟩:=wP r50 r51
   refine⟨p,_,r5,.int st,rfl,rfl,.of (by rw[qg npd];exact qd),hsa,?_⟩
   have fr5:Fr H d (upd (upd (upd H1 d (.dK (src n4 sd t4))) p (.lst [V.int 1,V.int 3,V.int 5,V.int 7,V.int 9,V.int 11])) d (.dK (src n5 sd t5))):=(fr1.at_d.new hp).at_d
   generalize hH5:upd (upd (upd H1 d (.dK (src n4 sd t4))) p (.lst [V.int 1,V.int 3,V.int 5,V.int 7,V.int 9,V.int 11])) d (.dK (src n5 sd t5))=H5 at fr5
   have hd5:H5 d=some (.dK (src n5 sd t5)):=by rw[<-hH5];exact qd
   refine⟨by show 0<=sizeLine;decide,λl hl=>⟨_,rfl,m,rfl,by omega,by omega,?_⟩⟩
   have hHl:H l=none:=fr5.fresh hd5 hl
   have nld:l≠d:=λe=>by rw[e,hd5]at hl;cases hl
   refine QL (lo:=0) (n:=m) (λi σ' H'=>∃(v1 v2:Option V) (n' t':Int) (zs:List Str),σ'=[some (.ref d),some (.int m),some (.str V8),some (.str wd),some (.str ah),some (.int f),some (.int st),some (.ref l),v1,v2]/\
     H' d=some (.dK (src n' sd t'))/\H' l=some (.lst (zs.map V.str))/\zs.length=i/\Qy (ws.take j) f st zs/\Fr H d H')
     ⟨none,none,n5,t5,[],rfl,qo hd5 hl,qd,rfl,λj z hz=>(nomatch hz),fr5.new hl⟩ ?_ ?_
   . rintro i σ' H' hi ⟨v1,v2,n',t',zs,rfl,hd',hl',hz,hN,fr⟩
     rw[Int.zero_add]
     refine⟨_,rfl,_,rfl,_,rfl,ah,rfl,(by rw[hAl];exact Nat.le_of_lt (qu (by omega))),_,_,rfl,rfl,d,8 - (ah.length:Int),n',sd,t',rfl,hd',by omega,by omega,λr n6 t6 r0 r1=>?_⟩
     have er:r=((r.toNat:Nat):Int):=by omega
     refine⟨_,rfl,wd,r,rfl,rfl,rfl,by omega,?_⟩
     generalize hb:Txt.slice wd none (some r)=bh
     have hB:bh.cps.toList=ws.take r.toNat:=by rw[<-hb,er,zj,hW];rfl
     have hBl:bh.length<=r.toNat:=by
       show bh.cps.size<=r.toNat
       rw[<-Array.length_toList,hB,List.length_take]
       omega
     refine⟨_,rfl,.inl ⟨rfl,_,.of (by rw[qg nld];exact hl')⟩,_,rfl,_,rfl,_,rfl,_,rfl,_,rfl,_,_,rfl,rfl,.inl ⟨by omega,by omega⟩,_,_,rfl,rfl,_,_,rfl,rfl,(by show (0:Int) < 26;decide),?_⟩
     refine⟨V8,_,_,rfl,rfl,V7,yk (Int.emod_nonneg _ (by decide)) (Int.emod_lt_of_pos _ (by decide)),?_⟩
     have e26:97+((f+st*(i:Int)) % 26).toNat=VH f st i:=rfl
     rw[e26]
     have l1:(ah++(⟨#[VH f st i]⟩:Str)).length=j+1:=by
       show (ah++(⟨#[VH f st i]⟩:Str)).cps.size=_
       rw[Str.cps_append,Array.size_append]
       show ah.length+1=_
       rw[hAl]
     refine⟨_,_,rfl,rfl,Nat.le_of_lt (qu (by show ah.length+1<=1000;omega)),_,rfl,_,_,rfl,rfl,Nat.le_of_lt (qu (by rw[l1];omega)),?_⟩
     refine⟨l,_,_,rfl,rfl,(by rw[qg nld];exact hl'),(by rw[List.length_map,hz];exact qu (by omega)),?_⟩
     refine⟨_,_,n6,t6,zs++[ah++(⟨#[VH f st i]⟩:Str)++bh],rfl,?_,?_,?_,?_,?_⟩
     . rw[qg (Ne.symm nld)];exact qd
     . rw[List.map_append];exact qd
     . rw[List.length_append,hz];rfl
     . refine hN.snoc (B:=ws.take r.toNat) ?_ (Wn ha1 _) ?_
       . rw[Str.cps_append,Str.cps_append,Array.toList_append,Array.toList_append,hA,hB,hz]
       . rw[List.length_take,List.length_take]
         omega
     . exact fr.at_d.own hHl
   . rintro σ' H' ⟨v1,v2,n',t',zs,rfl,hd',hl',hz,hN,fr⟩
     exact⟨_,rfl,q l zs n' t' H' hHl hl' hz (hN.names (Wn ha1 _)) (hN.nodup hst (by omega)) hd' fr⟩
end
end Rh
set_option Elab.async false
set_option linter.all false
set_option maxRecDepth 100000
set_option maxHeartbeats 4000000
namespace Rh
open PySem L2 PyProof.Rows
def W5 (t:TT) (σ:L2.St) (H:Hp):Prop:=∀Q:Bool->Hp->Prop,(∀b,Q b H)->t σ H Q
theorem W5.and {t u:TT} {σ:L2.St} {H:Hp} (h:W5 t σ H) (k:W5 u σ H):W5 (wJ t u) σ H:=λQ q=>h _ λb=>by
 cases b
 . exact jP (q false)
 . exact Q3 (k _ q)
theorem W5.or {t u:TT} {σ:L2.St} {H:Hp} (h:W5 t σ H) (k:W5 u σ H):W5 (tOr t u) σ H:=λQ q=>h _ λb=>by
 cases b
 . exact jP (k _ q)
 . exact Q3 (q true)
theorem kU {tc:TT} {tp:TS} {D:QF} {σ:L2.St} {H0:Hp} (G:Hp->Prop) (h:G H0) (ht:W5 tc σ H0) (hp:∀D:QF,(∀H',G H'->D.nx σ H')->tp D σ H0) (k:∀H',G H'->D.nx σ H'):yH tc tp Vi D σ H0:=
 ht _ λb=>by
   cases b
   . exact jP (k _ h)
   . exact Q3 (hp D k)
theorem Z6 {tc:TT} {tp u:TS} {D:QF} {σ:L2.St} {H0:Hp} (G:Hp->Prop) (h:G H0) (ht:W5 tc σ H0) (hp:∀D:QF,(∀H',G H'->D.nx σ H')->tp D σ H0) (k:∀H',G H'->u D σ H'):XC (yH tc tp Vi) u D σ H0:=kU G h ht hp k
theorem zO {i:Nat} {v:V} {σ:L2.St} {H:Hp} {Q:L2.St->Hp->Prop} (h:Q (σ.set i (some v)) H):Qs i v σ H Q:=h
abbrev up (k:Nat×Nat):Int×Int:=((k.1:Int),(k.2:Int))
def wC (a b:Nat×Nat):Prop:=a.1 < b.1\/(a.1=b.1/\a.2 < b.2)
abbrev ZC (ks:List (Nat×Nat)):List (List qQ):=ks.map λk=>ZL (up k)
theorem Uw {a b:Nat×Nat} (h:ZL (up a)=ZL (up b)):a=b:=by
 unfold ZL at h
 simp only[List.cons.injEq,Sum.inl.injEq,and_true]at h
 exact Prod.ext (by have:=h.1;omega) (by have:=h.2;omega)
structure Q2 (m i j:Nat) (ks:List (Nat×Nat)):Prop where
 ord:ks.Pairwise wC
 lt:∀x∈ks,x.2 < m/\(x.1 < i\/(x.1=i/\x.2 < j))
 len:ks.length<=i*m+j
theorem Q2.more {m i j:Nat} {ks:List (Nat×Nat)} (h:Q2 m i j ks):Q2 m i (j+1) ks:=⟨h.ord,λx hx=>by have:=h.lt x hx;omega,by have:=h.len;omega⟩
theorem Q2.snoc {m i j:Nat} {ks:List (Nat×Nat)} (h:Q2 m i j ks) (hj:j < m):Q2 m i (j+1) (ks++[(i,j)]):=by
 refine⟨List.pairwise_append.mpr ⟨h.ord,List.pairwise_singleton _ _,λa ha b hb=>?_⟩,λx hx=>?_,?_⟩
 . rw[List.mem_singleton.mp hb]
   have:=h.lt a ha
   unfold wC
   omega
 . rcases List.mem_append.mp hx with hx | hx
   . have:=h.lt x hx
     omega
   . rw[List.mem_singleton.mp hx]
     exact⟨hj,.inr ⟨rfl,Nat.lt_succ_self _⟩⟩
 . rw[List.length_append]
   have:=h.len
   show ks.length+1<=_
   omega
theorem Q2.row {m i:Nat} {ks:List (Nat×Nat)} (h:Q2 m i m ks):Q2 m (i+1) 0 ks:=⟨h.ord,λx hx=>by have:=h.lt x hx;omega,by have:=h.len;rw[Nat.succ_mul];omega⟩
def Ka (m i j:Nat) (kvs:List (List qQ×V)):Prop:=∃ks,Q2 m i j ks/\(kvs.map (·.1)=ZC ks\/kvs.map (·.1)=ZC (ks++[(i,j)]))
theorem V6 (kvs:List (List qQ×V)) (k:List qQ):((kvs.any λkv=>decide (kv.1=k))=true)↔k∈kvs.map (·.1):=by
 rw[List.any_eq_true,List.mem_map]
 simp
theorem xE {kvs:List (List qQ×V)} {k:List qQ} (v:V) (h:k∈kvs.map (·.1)):(jD kvs k v).map (·.1)=kvs.map (·.1):=by
 unfold jD
 rw[if_pos ((V6 kvs k).mpr h),List.map_map]
 refine List.map_congr_left λx _=>?_
 show (if x.1=k then (x.1,v) else x).1=x.1
 split<;>rfl
theorem kD {kvs:List (List qQ×V)} {k:List qQ} (v:V) (h:¬k∈kvs.map (·.1)):(jD kvs k v).map (·.1)=kvs.map (·.1)++[k]:=by
 unfold jD
 rw[if_neg (λz=>h ((V6 kvs k).mp z)),List.map_append]
 rfl
theorem Ka.put {m i j:Nat} {kvs:List (List qQ×V)} (h:Ka m i j kvs) (v:V):Ka m i j (jD kvs (ZL (up (i,j))) v):=by
 obtain⟨ks,ha,h⟩:=h
 refine⟨ks,ha,.inr ?_⟩
 rcases h with h | h
 . rw[kD,h,ZC,ZC,List.map_append]
   . rfl
   . rw[h]
     intro z
     obtain⟨x,hx,e⟩:=List.mem_map.mp z
     have e':=Uw e
     have:=ha.lt x hx
     rw[e']at this
     omega
 . rw[xE,h]
   rw[h]
   exact List.mem_map.mpr ⟨(i,j),by simp,rfl⟩
theorem Ka.len {m i j:Nat} {kvs:List (List qQ×V)} (h:Ka m i j kvs):kvs.length<=i*m+j+1:=by
 obtain⟨ks,ha,h⟩:=h
 have hl:=ha.len
 rcases h with h | h
 . have:=congrArg List.length h
   simp only[List.length_map]at this
   omega
 . have:=congrArg List.length h
   simp only[List.length_map,List.length_append,List.length_singleton]at this
   omega
theorem we {i m:Nat} (hi:i<=m) (hm:m<=14):i*m<=196:=Nat.le_trans (Nat.mul_le_mul (Nat.le_trans hi hm) hm) (by decide)
theorem Gj (xs:List V):U0 xs none (some 40)=xs.take 40:=by
 unfold U0
 have e1:HT.sIx xs.length 0 none=0:=rfl
 have e2:HT.sIx xs.length xs.length (some 40)=min 40 xs.length:=by
   simp [HT.sIx]
 rw[e1,e2,List.drop_zero,Nat.sub_zero]
 by_cases h:40<=xs.length
 . rw[Nat.min_eq_left h]
 . rw[Nat.min_eq_right (by omega),List.take_of_length_le (Nat.le_refl _),List.take_of_length_le (by omega)]
def Jw (H:Hp) (ps:List Addr) (ks:List (Nat×Nat)):Prop:=ps.length=ks.length/\∀(i:Nat) (p:Addr) (k:Nat×Nat),ps[i]?=some p->ks[i]?=some k->H p=some (.tup [.int (k.1:Nat),.int (k.2:Nat)])
def Vo:Sp:=λvs H Q _=>∃(d:Addr) (m:Nat) (n s t sh lo:Int),vs=[.ref d,.int m,.int sh,.int lo]/\H d=some (.dK (src n s t))/\m<=14/\
 ∀(l:Addr) (ps:List Addr) (ks:List (Nat×Nat)) (n' t':Int) (H':Hp),H l=none->H' l=some (.lst (ps.map V.ref))->Jw H' ps ks->ks.Pairwise wC->(∀x∈ks,x.1 < m/\x.2 < m)->ks.length<=40->H' d=some (.dK (src n' s t'))->Fr H d H'->Q (.ref l) H'
section
variable {P:Program} {w:World} {K:PySem.W.Frag} {mg:Str->Option Value} {base:Heap}
abbrev uq:List Str:=["_law_source_here","_law_many","_law_shape","_law_low","_law_pairs","_law_k","_law_j","_law_way"]
abbrev zw:List Str:=["_law_source_here","_law_many","_law_shape","_law_low"]
theorem Za:qA uq zw (qi zo):=⟨rfl,rfl,rfl,by decide+kernel,rfl,by decide+kernel,by decide+kernel⟩
theorem ki {f fT:Addr} {fd fdT:FuncData} (F:Qa K "_law_leads" "_law_leads" zo f fd) (B:JF mg) (hso:mg "sorted"=none) (hT:jC K mg "_law_take" Zb ["_law_source_here","_law_many"] fT fdT):qp P w K mg base q5 2 f fd zw Vo:=by
 have GT:qp P w K mg base q5 1 fT fdT ["_law_source_here","_law_many"] Q7:=Jn hT.fn
 refine F.okJ Za (λvs H Q E h=>?_) (λcdv A outer s H vs Q E hr h=>?_)
 . obtain⟨d,m,n,sd,t,sh,lo,rfl,_⟩:=h
   rfl
 . obtain⟨d,m,n,sd,t,sh,lo,rfl,hd,hm,q⟩:=h
   have hu:=JN hr
   refine⟨_,qh (qt (i:=4) Za.nd rfl (Or.inl rfl) kM)
     (qh (j0 PassesOwn.never rfl (jO (by rfl) B.rng (qb (jv 1) qe)) (qF (i:=5) Za.nd rfl (Or.inl rfl))
       (ql (j0 PassesOwn.never rfl (jO (by rfl) B.rng (qb (jv 1) qe)) (qF (i:=6) Za.nd rfl (Or.inl rfl))
         (qh (qt (i:=7) Za.nd rfl (Or.inl rfl) (qP hT GT hr (by rfl) (qb (jv 0) (qb qj qe))))
         (qh (jd (jR (qv j6 (jv 2) qj (qy _)) (jI (Jg (jR (qv j3 (jv 6) (jv 5) (qy _)) (jI (qv j3 (jv 7) qj (qy _)))).pt (QA (jR (qv vX (jv 6) (jv 5) (qy _)) (jI (qv j3 (jv 7) qj (qy _)))).pt)).pt)).pt
           (ql (j5 hu (jv 4) (jl (qb (jv 5) (qb (jv 6) qe))) JM rfl)) qD)
         (qh (jd (jR (qv j6 (jv 2) qj (qy _)) (jI (qv j3 (jv 7) qj (qy _)))).pt
           (ql (j5 hu (jv 4) (jl (qb (jv 5) (qb (jv 6) qe))) JM rfl)) qD)
         (qh (jd (jR (qv j6 (jv 2) qj (qy _)) (jI (Jg (jR (qv j6 (jv 6) (qM jQ (qM j4 (jv 5) qj) (jv 1)) (qy _)) (jI (qv j3 (jv 7) qj (qy _)))).pt (QA (qv j3 (jv 7) qj (qy _)))).pt)).pt
           (ql (j5 hu (jv 4) (jl (qb (jv 5) (qb (jv 6) qe))) JM rfl)) qD)
         (qh (jd (jR (qv j6 (jv 2) qj (qy _)) (jR (qv j3 (jv 6) (jv 5) (qy _)) (jI (Jg (qv j3 (jv 6) (jv 3) (qy _)) (QA (qv j3 (jv 7) qj (qy _)))).pt))).pt
           (ql (j5 hu (jv 4) (jl (qb (jv 5) (qb (jv 6) qe))) JM rfl)) qD)
         (ql (jd (jR (qv j6 (jv 2) qj (qy _)) (jI (Jg (jR (qv j3 (jv 6) (jv 3) (qy _)) (jI (qv j3 (jv 6) (jv 5) (qy _)))).pt (QA (jR (qv vX (jv 5) (jv 3) (qy _)) (jI (qv j3 (jv 7) qj (qy _)))).pt)).pt)).pt
           (ql (j5 hu (jv 4) (jl (qb (jv 5) (qb (jv 6) qe))) JM rfl)) qD)))))))))
       )
     (ql (qH (zK yR (qw (W2 rfl) (by rfl) hso boot_sorted (qb (jv 4) qe)) Xh (Xg qj))))),?_⟩
   intro D hD
   have nDd:D≠d:=λe=>by rw[e,hd]at hD;cases hD
   refine⟨_,rfl,m,rfl,by omega,by omega,?_⟩
   refine QL (lo:=0) (n:=m) (λi σ' H'=>∃(v1 v2 v3:Option V) (n' t':Int) (kvs:List (List qQ×V)) (ks:List (Nat×Nat)),σ'=[some (.ref d),some (.int m),some (.int sh),some (.int lo),some (.ref D),v1,v2,v3]/\
     H' d=some (.dK (src n' sd t'))/\H' D=some (.dT kvs)/\kvs.map (·.1)=ZC ks/\Q2 m i 0 ks/\Fr H d H')
     ⟨none,none,none,n,t,[],[],rfl,qo hd hD,qd,rfl,⟨.nil,λx hx=>(nomatch hx),Nat.zero_le _⟩,Fr.refl.new hD⟩ ?_ ?_
   . rintro i σ' H' hi ⟨v1,v2,v3,n',t',kvs,ks,rfl,hd',hD',ek,ha,fr⟩
     rw[Int.zero_add]
     refine⟨_,rfl,m,rfl,by omega,by omega,?_⟩
     refine QL (lo:=0) (n:=m) (λj σ' H'=>∃(v2 v3:Option V) (n' t':Int) (kvs:List (List qQ×V)) (ks:List (Nat×Nat)),σ'=[some (.ref d),some (.int m),some (.int sh),some (.int lo),some (.ref D),some (.int i),v2,v3]/\
       H' d=some (.dK (src n' sd t'))/\H' D=some (.dT kvs)/\kvs.map (·.1)=ZC ks/\Q2 m i j ks/\Fr H d H')
       ⟨_,_,n',t',kvs,ks,rfl,hd',hD',ek,ha,fr⟩ ?_ ?_
     . rintro j σ' H2 hj ⟨v2,v3,n2,t2,kvs,ks,rfl,hd2,hD2,ek,ha,fr⟩
       rw[Int.zero_add]
       refine⟨_,rfl,d,12,n2,sd,t2,rfl,hd2,by decide,by decide,λr n3 t3 r0 r1=>?_⟩
       have hsq:=we (Nat.le_of_lt hi) hm
       let G:Hp->Prop:=λH'=>∃(kvs:List (List qQ×V)),H' d=some (.dK (src n3 sd t3))/\H' D=some (.dT kvs)/\Ka m i j kvs/\Fr H d H'
       have g0:G (upd H2 d (.dK (src n3 sd t3))):=⟨kvs,qd,(by rw[qg nDd];exact hD2),⟨ks,ha,.inl ek⟩,fr.at_d⟩
       have put:∀H',G H'->∀E:QF,(∀H',G H'->E.nx [some (.ref d),some (.int m),some (.int sh),some (.int lo),some (.ref D),some (.int i),some (.int j),some (.int r)] H')->
           wx (jt 4) (yF (jc (jt 5) (jc (jt 6) Qk))) (tC (.bl true)) E [some (.ref d),some (.int m),some (.int sh),some (.int lo),some (.ref D),some (.int i),some (.int j),some (.int r)] H':=by
         rintro H' ⟨kvs,h1,h2,h3,h4⟩ E k
         refine⟨_,rfl,_,rfl,_,rfl,by show 2<=sizeLine;decide,λp hp=>?_⟩
         have npd:p≠d:=λe=>by rw[e,h1]at hp;cases hp
         have npD:p≠D:=λe=>by rw[e,h2]at hp;cases hp
         refine⟨D,_,rfl,JD.t (k:=ZL (up (i,j))) (kvs:=kvs) (by rw[qg (Ne.symm npD)];exact h2) qd (qu (by have:=h3.len;omega)),?_⟩
         refine k _ ⟨_,?_,qd,h3.put _,?_⟩
         . rw[qg (Ne.symm nDd),qg (Ne.symm npd)]
           exact h1
         . exact(h4.new hp).own hD
       refine zO ?_
       dsimp only[List.set]
       refine Z6 G g0 ?_ (put _ g0) λH3 g3=>?_
       . exact W5.and (λQ q=>⟨_,rfl,rfl,_,rfl,q _⟩) (.or (.and (λQ q=>⟨_,rfl,_,rfl,_,_,rfl,rfl,_,rfl,q _⟩) (λQ q=>⟨_,rfl,_,_,rfl,rfl,_,rfl,q _⟩)) (.and (λQ q=>⟨_,rfl,_,rfl,_,_,rfl,rfl,_,rfl,q _⟩) (λQ q=>⟨_,rfl,_,_,rfl,rfl,_,rfl,q _⟩)))
       refine Z6 G g3 ?_ (put _ g3) λH4 g4=>?_
       . exact W5.and (λQ q=>⟨_,rfl,rfl,_,rfl,q _⟩) (λQ q=>⟨_,rfl,_,_,rfl,rfl,_,rfl,q _⟩)
       refine Z6 G g4 ?_ (put _ g4) λH5 g5=>?_
       . exact W5.and (λQ q=>⟨_,rfl,rfl,_,rfl,q _⟩) (.or (.and (λQ q=>⟨_,rfl,_,rfl,_,_,rfl,rfl,_,rfl,_,_,rfl,rfl,(by show (0:Int) < m;omega),rfl,_,rfl,q _⟩) (λQ q=>⟨_,rfl,_,_,rfl,rfl,_,rfl,q _⟩)) (λQ q=>⟨_,rfl,_,_,rfl,rfl,_,rfl,q _⟩))
       refine Z6 G g5 ?_ (put _ g5) λH6 g6=>?_
       . exact W5.and (λQ q=>⟨_,rfl,rfl,_,rfl,q _⟩) (.and (λQ q=>⟨_,rfl,_,rfl,_,_,rfl,rfl,_,rfl,q _⟩) (.or (λQ q=>⟨_,rfl,_,rfl,_,_,rfl,rfl,_,rfl,q _⟩) (λQ q=>⟨_,rfl,_,_,rfl,rfl,_,rfl,q _⟩)))
       refine kU G g6 ?_ (put _ g6) λH7 g7=>?_
       . exact W5.and (λQ q=>⟨_,rfl,rfl,_,rfl,q _⟩) (.or (.and (λQ q=>⟨_,rfl,_,rfl,_,_,rfl,rfl,_,rfl,q _⟩) (λQ q=>⟨_,rfl,_,rfl,_,_,rfl,rfl,_,rfl,q _⟩)) (.and (λQ q=>⟨_,rfl,_,rfl,_,_,rfl,rfl,_,rfl,q _⟩) (λQ q=>⟨_,rfl,_,_,rfl,rfl,_,rfl,q _⟩)))
       obtain⟨kvs,h1,h2,⟨ks,ha,h3⟩,h4⟩:=g7
       rcases h3 with h3 | h3
       . exact⟨_,_,n3,t3,kvs,ks,rfl,h1,h2,h3,ha.more,h4⟩
       . exact⟨_,_,n3,t3,kvs,_,rfl,h1,h2,h3,ha.snoc hj,h4⟩
     . rintro σ' H2 ⟨v2,v3,n2,t2,kvs,ks,rfl,hd2,hD2,ek,ha,fr⟩
       exact⟨_,_,_,n2,t2,kvs,ks,rfl,hd2,hD2,ek,ha.row,fr⟩
   . rintro σ' H1 ⟨v1,v2,v3,n1,t1,kvs,ks,rfl,hd1,hD1,ek,ha,fr⟩
     have hl:kvs.length=ks.length:=by simpa using congrArg List.length ek
     have hsq:=we (Nat.le_refl m) hm
     have hal:=ha.len
     refine⟨_,rfl,D,kvs,ks.map up,rfl,hD1,?_,?_,by omega,λl ps hfl lps tup=>?_⟩
     . rw[ek,List.map_map]
       rfl
     . intro i k k' e1 e2
       rw[List.getElem?_map]at e1 e2
       cases e3:ks[i]? with
       | none=>rw[e3]at e1;cases e1
       | some a=>
         cases e4:ks[i+1]? with
         | none=>rw[e4]at e2;cases e2
         | some b=>
           rw[e3]at e1
           rw[e4]at e2
           obtain rfl:=(Option.some.inj e1).symm
           obtain rfl:=(Option.some.inj e2).symm
           have h5:=List.pairwise_iff_getElem.mp ha.ord i (i+1) (List.getElem?_eq_some_iff.mp e3).1 (List.getElem?_eq_some_iff.mp e4).1 (Nat.lt_succ_self _)
           rw[(List.getElem?_eq_some_iff.mp e3).2,(List.getElem?_eq_some_iff.mp e4).2]at h5
           unfold wC at h5
           show zD _ _
           unfold zD
           show (a.1:Int) < b.1\/((a.1:Int)=b.1/\(a.2:Int) < b.2)
           omega
     . refine⟨40,rfl,l,_,rfl,.of qd,λl2 hl2=>?_⟩
       rw[Gj,<-List.map_take]
       have n2d:l2≠d:=λe=>by
         rw[e,qo hd1 hfl]at hl2
         cases hl2
       have hl1:H1 l2=none:=by
         by_cases e:l2=l
         . rw[e];exact hfl
         . rw[qg e]at hl2;exact hl2
       have fr2:=(fr.new (o:=.lst (ps.map V.ref)) hfl).new (o:=.lst ((ps.take 40).map V.ref)) hl2
       refine q l2 (ps.take 40) (ks.take 40) n1 t1 _ (fr.fresh hd1 hl1) qd ⟨?_,λi p k e1 e2=>?_⟩ ?_ ?_ ?_ ?_ fr2
       . rw[List.length_take,List.length_take,lps,List.length_map]
       . have i40:i < 40:=by
           have:=(List.getElem?_eq_some_iff.mp e1).1
           rw[List.length_take]at this
           omega
         rw[List.getElem?_take_of_lt i40]at e1 e2
         have h1:=tup i p (up k) e1 (by rw[List.getElem?_map,e2];rfl)
         exact qo (qo h1 hfl) hl2
       . exact ha.ord.sublist (List.take_sublist _ _)
       . intro x hx
         have:=ha.lt x (List.mem_of_mem_take hx)
         omega
       . rw[List.length_take]
         omega
       . exact qo (qo hd1 hfl) hl2
end
end Rh
set_option Elab.async false
set_option linter.all false
set_option maxRecDepth 100000
set_option maxHeartbeats 4000000
namespace Rh
open PySem L2 PyProof.Rows
structure qI (rs:List (Str×List Str)):Prop where
 nm:∀r∈rs,qN r.1=true
 nd:(rs.map (·.1)).Nodup
 to:∀r∈rs,∀z∈r.2,z∈rs.map (·.1)
 rd:∀r∈rs,r.2.Nodup
 few:(rs.map λr=>r.2.length).sum<=40
def zc (zs:List Str) (j:Nat):Str:=zs.getD j ⟨#[]⟩
theorem ZX {zs:List Str} {j:Nat} (h:j < zs.length):zc zs j∈zs:=by
 unfold zc
 rw[List.getD_eq_getElem?_getD,List.getElem?_eq_getElem h]
 exact List.getElem_mem h
theorem JZ {zs:List Str} {j:Nat} (h:j < zs.length):zs[j]?=some (zc zs j):=by
 unfold zc
 rw[List.getD_eq_getElem?_getD,List.getElem?_eq_getElem h]
 rfl
theorem Vd {zs:List Str} (hn:zs.Nodup) {i j:Nat} (hi:i < zs.length) (hj:j < zs.length) (h:zc zs i=zc zs j):i=j:=by
 have h1:=JZ hi
 have h2:=JZ hj
 rw[h,<-h2,List.getElem?_eq_getElem hi,List.getElem?_eq_getElem hj]at h1
 have e:zs[i]=zs[j]:=Option.some.inj h1
 rcases Nat.lt_trichotomy i j with l | l | l
 . exact absurd e (List.pairwise_iff_getElem.mp hn i j hi hj l)
 . exact l
 . exact absurd e.symm (List.pairwise_iff_getElem.mp hn j i hj hi l)
theorem Jo {α β:Type} {f:α->β}:∀{l:List α},l.Nodup->(∀a∈l,∀b∈l,f a=f b->a=b)->(l.map f).Nodup
 | [],_,_=>List.nodup_nil
 | a::l,h,k=>by
   rw[List.map_cons,List.nodup_cons]
   rw[List.nodup_cons]at h
   refine⟨λz=>?_,Jo h.2 λx hx y hy=>k x (List.mem_cons_of_mem _ hx) y (List.mem_cons_of_mem _ hy)⟩
   obtain⟨b,hb,e⟩:=List.mem_map.mp z
   have:=k b (List.mem_cons_of_mem _ hb) a (List.mem_cons_self) e
   subst this
   exact h.1 hb
def Yl (ks:List (Nat×Nat)) (k:Nat):List Nat:=(ks.filter λx=>decide (x.1=k)).map (·.2)
theorem Ud {ks:List (Nat×Nat)} (h:ks.Pairwise wC) (k:Nat):(Yl ks k).Nodup:=by
 have h1:(ks.filter λx=>decide (x.1=k)).Pairwise wC:=h.sublist (List.filter_sublist)
 refine List.pairwise_map.mpr (List.Pairwise.imp_of_mem (λ{a b} ha hb r=>?_) h1)
 have e1:a.1=k:=of_decide_eq_true (List.mem_filter.mp ha).2
 have e2:b.1=k:=of_decide_eq_true (List.mem_filter.mp hb).2
 unfold wC at r
 omega
theorem Wu {ks:List (Nat×Nat)} {m:Nat} (h:∀x∈ks,x.1 < m/\x.2 < m) (k:Nat):∀j∈Yl ks k,j < m:=λj hj=>by
 obtain⟨x,hx,e⟩:=List.mem_map.mp hj
 have:=(h x (List.mem_filter.mp hx).1).2
 omega
theorem yK (os:List Nat) (f g:Nat->Nat):(os.map λk=>f k+g k).sum=(os.map f).sum+(os.map g).sum:=by
 induction os with
 | nil=>rfl
 | cons a os ih=>
   simp only[List.map_cons,List.sum_cons,ih]
   omega
theorem yJ {os:List Nat} (h:os.Nodup) (a:Nat):(os.map λk=>if a=k then 1 else 0).sum<=1:=by
 induction os with
 | nil=>exact Nat.zero_le _
 | cons b os ih=>
   rw[List.nodup_cons]at h
   rw[List.map_cons,List.sum_cons]
   by_cases e:a=b
   . subst e
     have z:(os.map λk=>if a=k then 1 else 0)=os.map λ_=>0:=List.map_congr_left λk hk=>by
       rw[if_neg]
       intro e
       subst e
       exact h.1 hk
     rw[z,if_pos rfl]
     have:(os.map λ_=>0).sum=0:=by
       clear z ih h
       induction os with
       | nil=>rfl
       | cons c os ih=>rw[List.map_cons,List.sum_cons,ih]
     omega
   . rw[if_neg e]
     have:=ih h.2
     omega
theorem Vg {os:List Nat} (h:os.Nodup):∀ks:List (Nat×Nat),(os.map λk=>(Yl ks k).length).sum<=ks.length
 | []=>by
   have:(os.map λk=>(Yl [] k).length).sum=0:=by
     clear h
     induction os with
     | nil=>rfl
     | cons c os ih=>rw[List.map_cons,List.sum_cons,ih];rfl
   omega
 | x::ks=>by
   have e:(os.map λk=>(Yl (x::ks) k).length)=os.map λk=>(if x.1=k then 1 else 0)+(Yl ks k).length:=List.map_congr_left λk _=>by
     unfold Yl
     rw[List.filter_cons]
     by_cases z:x.1=k
     . rw[if_pos (decide_eq_true z),if_pos z]
       simp only[List.map_cons,List.length_cons]
       omega
     . rw[if_neg (by simpa using z),if_neg z,Nat.zero_add]
   rw[e,yK,List.length_cons]
   have:=yJ h x.1
   have:=Vg h ks
   omega
def QJ (zs:List Str) (ks:List (Nat×Nat)) (ab:Bool) (k:Nat):Str×List Str:=
 (zc zs k,if ab=true then ((Yl ks k).map (zc zs)).reverse else (Yl ks k).map (zc zs))
theorem Ul {zs:List Str} {ks:List (Nat×Nat)} {ab:Bool} {k:Nat} {z:Str}:z∈(QJ zs ks ab k).2↔z∈(Yl ks k).map (zc zs):=by
 unfold QJ
 cases ab
 . rw[if_neg Bool.false_ne_true]
 . rw[if_pos rfl,List.mem_reverse]
theorem Um {zs:List Str} {ks:List (Nat×Nat)} {ab:Bool} {k:Nat}:(QJ zs ks ab k).2.length=(Yl ks k).length:=by
 unfold QJ
 cases ab
 . rw[if_neg Bool.false_ne_true,List.length_map]
 . rw[if_pos rfl,List.length_reverse,List.length_map]
structure Wp (m:Nat) (os:List Nat):Prop where
 len:os.length=m
 nd:os.Nodup
 lt:∀k∈os,k < m
 all:∀j,j < m->j∈os
theorem US {zs:List Str} {ks:List (Nat×Nat)} {os:List Nat} {m:Nat} (ab:Bool) (hz:zs.length=m) (hN:∀z∈zs,qN z=true) (hd:zs.Nodup) (hk:ks.Pairwise wC) (hl:∀x∈ks,x.1 < m/\x.2 < m) (h40:ks.length<=40) (ho:Wp m os):
   qI (os.map (QJ zs ks ab)):=by
 have e1:(os.map (QJ zs ks ab)).map (·.1)=os.map (zc zs):=by rw[List.map_map];rfl
 have inj:∀a∈os,∀b∈os,zc zs a=zc zs b->a=b:=λa ha b hb e=>Vd hd (by rw[hz];exact ho.lt a ha) (by rw[hz];exact ho.lt b hb) e
 refine⟨λr hr=>?_,?_,λr hr z hz'=>?_,λr hr=>?_,?_⟩
 . obtain⟨k,hk',rfl⟩:=List.mem_map.mp hr
   exact hN _ (ZX (by rw[hz];exact ho.lt k hk'))
 . rw[e1]
   exact Jo ho.nd inj
 . obtain⟨k,hk',rfl⟩:=List.mem_map.mp hr
   rw[Ul]at hz'
   obtain⟨j,hj,rfl⟩:=List.mem_map.mp hz'
   rw[e1]
   exact List.mem_map.mpr ⟨j,ho.all j (Wu hl k j hj),rfl⟩
 . obtain⟨k,hk',rfl⟩:=List.mem_map.mp hr
   have h1:((Yl ks k).map (zc zs)).Nodup:=Jo (Ud hk k) λa ha b hb e=>Vd hd (by rw[hz];exact Wu hl k a ha) (by rw[hz];exact Wu hl k b hb) e
   show (if ab=true then _ else _:List Str).Nodup
   cases ab
   . rw[if_neg Bool.false_ne_true]
     exact h1
   . rw[if_pos rfl]
     exact List.pairwise_reverse.mpr (h1.imp λh=>Ne.symm h)
 . have e2:((os.map (QJ zs ks ab)).map λr=>r.2.length)=os.map λk=>(Yl ks k).length:=by
     rw[List.map_map]
     exact List.map_congr_left λk _=>Um
   rw[e2]
   exact Nat.le_trans (Vg ho.nd ks) h40
theorem vV (m:Nat):Wp m (List.range m):=⟨List.length_range,List.nodup_range,λk h=>List.mem_range.mp h,λj h=>List.mem_range.mpr h⟩
theorem WL (m:Nat):Wp m (Zn m):=⟨by rw[Zn,List.length_reverse,List.length_range],List.pairwise_reverse.mpr (List.nodup_range.imp λh=>Ne.symm h),λk h=>List.mem_range.mp (List.mem_reverse.mp h),λj h=>List.mem_reverse.mpr (List.mem_range.mpr h)⟩
def ZP (m:Nat):List Nat:=(List.range m).map λk=>k*5 % m
theorem UU:∀m,m < 15->(ZP m).Nodup->∀j,j < m->j∈ZP m:=by decide+kernel
theorem XN {m:Nat} (hm:m<=14) (h0:0 < m) (h:(ZP m).Nodup):Wp m (ZP m):=
 ⟨by rw[ZP,List.length_map,List.length_range],h,λk hk=>by obtain⟨x,_,rfl⟩:=List.mem_map.mp hk;exact Nat.mod_lt _ h0,UU m (by omega) h⟩
theorem Yx (val:Nat->Int):∀i,(firstMet val i).length=i->((List.range i).map val).Nodup
 | 0,_=>List.nodup_nil
 | i+1,h=>by
   have h1:=firstMet_any val i (val i)
   have h2:=firstMet_length_le val i
   rw[firstMet_succ]at h
   unfold step_dedup at h
   split at h
   . omega
   . rename_i z
     rw[List.length_append,List.length_singleton]at h
     rw[List.range_succ,List.map_append,List.nodup_append]
     refine⟨Yx val i (by omega),by simp,λa ha b hb e=>?_⟩
     have eb:b=val i:=by simpa using hb
     subst eb
     subst e
     refine z ?_
     rw[h1,List.any_eq_true]
     exact⟨_,ha,by simp⟩
theorem ut {os:List Nat} (h:¬(firstMet (λi=>(os.map λk=>((k:Nat):Int)).getD i 0) (os.map λk=>((k:Nat):Int)).length).length < os.length):os.Nodup:=by
 have h1:=firstMet_length_le (λi=>(os.map λk=>((k:Nat):Int)).getD i 0) (os.map λk=>((k:Nat):Int)).length
 have h2:=Yx (λi=>(os.map λk=>((k:Nat):Int)).getD i 0) (os.map λk=>((k:Nat):Int)).length (by rw[List.length_map]at h1 h ⊢;omega)
 have e:(List.range (os.map λk=>((k:Nat):Int)).length).map (λi=>(os.map λk=>((k:Nat):Int)).getD i 0)=os.map λk=>((k:Nat):Int):=by
   refine List.ext_getElem? λi=>?_
   rw[List.getElem?_map]
   by_cases hi:i < (os.map λk=>((k:Nat):Int)).length
   . rw[List.getElem?_range hi,List.getElem?_eq_getElem hi]
     simp only[Option.map_some,List.getD_eq_getElem?_getD,List.getElem?_eq_getElem hi,Option.getD_some]
   . rw[List.getElem?_eq_none (by rw[List.length_range];omega),List.getElem?_eq_none (by omega)]
     rfl
 rw[e]at h2
 refine(List.pairwise_map.mp h2).imp λh e=>h (by rw[e])
end Rh
set_option Elab.async false
set_option linter.all false
set_option maxRecDepth 100000
set_option maxHeartbeats 4000000
namespace Rh
open PySem L2 PyProof.Rows
def jB (H:Hp) (ps:List Addr) (rs:List (Str×List Str)):Prop:=ps.length=rs.length/\∀(i:Nat) (p:Addr) (r:Str×List Str),ps[i]?=some p->rs[i]?=some r->∃q,H p=some (.tup [.str r.1,.ref q])/\H q=some (.tup (r.2.map V.str))
def vq:Sp:=λvs H Q _=>∃(d:Addr) (mo:Nat) (n s t:Int),vs=[.ref d,.int mo]/\H d=some (.dK (src n s t))/\0 < mo/\mo<=14/\
 ∀(l:Addr) (ps:List Addr) (rs:List (Str×List Str)) (n' t':Int) (H':Hp),H l=none->H' l=some (.lst (ps.map V.ref))->jB H' ps rs->qI rs->0 < rs.length->rs.length<=mo->H' d=some (.dK (src n' s t'))->Fr H d H'->Q (.ref l) H'
structure Qi (mg:Str->Option Value):Prop where
 srt:mg "sorted"=none
 lst:mg "list"=none
 rev:mg "reversed"=none
 set:mg "set"=none
 tup:mg "tuple"=none
theorem jB.mono {H H':Hp} {ps:List Addr} {rs:List (Str×List Str)} (h:jB H ps rs) (s:Same H H'):jB H' ps rs:=⟨h.1,λi p r e1 e2=>let ⟨q,a,b⟩:=h.2 i p r e1 e2;⟨q,s _ _ a,s _ _ b⟩⟩
theorem Jw.mono {H H':Hp} {ps:List Addr} {ks:List (Nat×Nat)} (h:Jw H ps ks) (s:Same H H'):Jw H' ps ks:=⟨h.1,λi p k e1 e2=>s _ _ (h.2 i p k e1 e2)⟩
theorem Fr.same {H H' H'':Hp} {d:Addr} (h:Fr H d H') (s:Same H' H''):Fr H d H'':=λb u hb hn=>s _ _ (h b u hb hn)
theorem jB.snoc {H:Hp} {ps:List Addr} {rs:List (Str×List Str)} (h:jB H ps rs) {p q:Addr} {r:Str×List Str} (hp:H p=some (.tup [.str r.1,.ref q])) (hq:H q=some (.tup (r.2.map V.str))):jB H (ps++[p]) (rs++[r]):=by
 refine⟨by rw[List.length_append,List.length_append,h.1];rfl,λi p' r' e1 e2=>?_⟩
 by_cases hi:i < ps.length
 . rw[List.getElem?_append_left hi]at e1
   rw[List.getElem?_append_left (by rw[<-h.1];exact hi)]at e2
   exact h.2 i p' r' e1 e2
 . have hi':i=ps.length:=by
     have:=(List.getElem?_eq_some_iff.mp e1).1
     rw[List.length_append,List.length_singleton]at this
     omega
   subst hi'
   rw[List.getElem?_append_right (Nat.le_refl _),Nat.sub_self]at e1
   rw[h.1,List.getElem?_append_right (Nat.le_refl _),Nat.sub_self]at e2
   obtain rfl:=(Option.some.inj e1).symm
   obtain rfl:=(Option.some.inj e2).symm
   exact⟨q,hp,hq⟩
theorem jB.upd_lst {H:Hp} {ps:List Addr} {rs:List (Str×List Str)} {l:Addr} {xs:List V} {o:HO} (h:jB H ps rs) (hl:H l=some (.lst xs)):jB (upd H l o) ps rs:=by
 refine⟨h.1,λi p r e1 e2=>?_⟩
 obtain⟨q,a,b⟩:=h.2 i p r e1 e2
 refine⟨q,?_,?_⟩
 . rw[qg (λe=>by rw[e,hl]at a;cases a)]
   exact a
 . rw[qg (λe=>by rw[e,hl]at b;cases b)]
   exact b
theorem WW {tc:TT} {tp u:TS} {D:QF} {σ:L2.St} {H0:Hp} (R:Bool->Hp->Prop) (G:L2.St->Hp->Prop) (ht:∀Q:Bool->Hp->Prop,(∀b H1,R b H1->Q b H1)->tc σ H0 Q)
   (hT:∀H1,R true H1->∀D':QF,(∀σ' H',G σ' H'->D'.nx σ' H')->tp D' σ H1) (hF:∀H1,R false H1->G σ H1) (k:∀σ' H',G σ' H'->u D σ' H'):XC (yH tc tp Vi) u D σ H0:=
 ht _ λb H1 r=>by
   cases b
   . exact jP (k _ _ (hF _ r))
   . exact Q3 (hT _ r _ k)
theorem x6 {zs:List Str} {j:Nat} (h:j < zs.length):Z9 (zs.map V.str) ((j:Nat):Int)=some (V.str (zc zs j)):=Zq (by rw[List.getElem?_map,JZ h];rfl)
theorem ve {ks:List (Nat×Nat)} {j:Nat} {x:Nat×Nat} (k:Nat) (h:ks[j]?=some x):Yl (ks.take (j+1)) k=Yl (ks.take j) k++if x.1=k then [x.2] else []:=by
 unfold Yl
 rw[List.take_add_one,h,List.filter_append,List.map_append]
 congr 1
 by_cases e:x.1=k
 . rw[if_pos e]
   simp [e]
 . rw[if_neg e]
   simp [e]
abbrev oL (os:List Nat):List V:=os.map λk=>V.int ((k:Nat):Int)
theorem xx (os:List Nat):oL os=(os.map λk=>((k:Nat):Int)).map V.int:=by rw[List.map_map];rfl
section
variable {P:Program} {w:World} {K:PySem.W.Frag} {mg:Str->Option Value} {base:Heap}
abbrev KP:List Str:=["_law_source_here","_law_most","_law_many","_law_names_here","_law_shape","_law_pairs","_law_about","_law_order","_law_rows_here","_law_k","_law_leads_here"]
theorem Qf:qA KP ["_law_source_here","_law_most"] (qi Vs):=⟨rfl,rfl,rfl,by decide+kernel,rfl,by decide+kernel,by decide+kernel⟩
abbrev Go:List Str:=["_law_one","_law_j","_law_k","_law_names_here"]
theorem V4:Go.Nodup:=by decide+kernel
theorem xn {f fT fN fL:Addr} {fd fdT fdN fdL:FuncData} (F:Qa K "_law_rows" "_law_rows" Vs f fd) (B:JF mg) (G:Qi mg) (hT:jC K mg "_law_take" Zb ["_law_source_here","_law_many"] fT fdT)
   (hN:jC K mg "_law_names" zm ["_law_source_here","_law_many"] fN fdN) (hL:jC K mg "_law_leads" zo zw fL fdL):qp P w K mg base q5 3 f fd ["_law_source_here","_law_most"] vq:=by
 have GT:qp P w K mg base q5 1 fT fdT ["_law_source_here","_law_many"] Q7:=Jn hT.fn
 have GN:qp P w K mg base q5 2 fN fdN ["_law_source_here","_law_many"] Vm:=kc hN.fn B hT
 have GL:qp P w K mg base q5 2 fL fdL zw Vo:=ki hL.fn B G.srt hT
 refine F.okJ Qf (λvs H Q E h=>?_) (λcdv A outer s H vs Q E hr h=>?_)
 . obtain⟨d,m,n,sd,t,rfl,_⟩:=h
   rfl
 . obtain⟨d,mo,n,sd,t,rfl,hd,hmo,hm14,q⟩:=h
   have r1:qY 1 _:=hr.mono (by decide)
   refine⟨_,qh (qt (i:=2) Qf.nd rfl (Or.inr rfl) (qM j4 qj (qP hT GT r1 (by rfl) (qb (jv 0) (qb (jv 1) qe)))))
     (qh (qt (i:=3) Qf.nd rfl (Or.inr rfl) (qP hN GN hr (by rfl) (qb (jv 0) (qb (jv 2) qe))))
     (qh (qt (i:=4) Qf.nd rfl (Or.inl rfl) (qP hT GT r1 (by rfl) (qb (jv 0) (qb qj qe))))
     (qh (qt (i:=5) Qf.nd rfl (Or.inl rfl) (qP hL GL hr (by rfl) (qb (jv 0) (qb (jv 2) (qb (jv 4) (qb (qM j4 qj (qP hT GT r1 (by rfl) (qb (jv 0) (qb qj qe)))) qe))))))
     (qh (qt (i:=6) Qf.nd rfl (Or.inl rfl) (Qn j6 (qP hT GT r1 (by rfl) (qb (jv 0) (qb qj qe))) qj (qy _)))
     (qh (qt (i:=7) Qf.nd rfl (Or.inl rfl) (K7 rfl (by rfl) G.lst (by rfl) B.rng (jv 2)))
     (qh (jd (jS (jv 6)) (ql (zJ (i:=7) (N':=["_law_k","_law_many"]) (ix:=[none,some 2]) Qf.nd rfl (Or.inl rfl) rfl ⟨rfl,rfl,rfl,rfl,rfl⟩ (jO (by rfl) B.rng (qb (jv 2) qe))
         (λC s2 H2 fp pins=>⟨qF (i:=0) (show (["_law_k","_law_many"]:List Str).Nodup by decide+kernel) rfl (Or.inl rfl),Qc,qM jQ (qM Qq (jv 0) qj) (jv 1)⟩))) qD)
     (qh (jd (qv j3 (qw Wi (by rfl) B.len boot_len (qb (qR (U2 rfl) (by rfl) G.set boot_set (qb (jv 7) qe)) qe)) (jv 2) (qy _))
         (ql (qt (i:=7) Qf.nd rfl (Or.inl rfl) (uF rfl (by rfl) G.lst (by rfl) G.rev (by rfl) B.rng (jv 2)))) qD)
     (qh (qt (i:=8) Qf.nd rfl (Or.inl rfl) (qO qe))
     (qh (j0 PassesOwn.never rfl (jW (jv 7)) (qF (i:=9) Qf.nd rfl (Or.inr rfl))
       (qh (zJ (i:=10) (N':=Go) (ix:=[none,none,some 9,some 3]) (g:=uJ K 2 (X0 (Qs 0) (X0 (Qs 1) uK))) (te:=Xx (vL K) (jt 3) (jt 1)) Qf.nd rfl (Or.inl rfl) rfl ⟨rfl,rfl,rfl,rfl,rfl⟩ (jW (jv 5))
           (λC s2 H2 fp pins=>⟨JV rfl (jq (qF (i:=0) V4 rfl (Or.inl rfl)) (jq (qF (i:=1) V4 rfl (Or.inl rfl)) QT)),
             VO (qv j6 (jv 0) (jv 2) (qy _)),qW jg (jv 3) (jv 1) (λ_ _=>rfl)⟩))
       (qh (jd (jS (jv 6)) (ql (qV (uG PySem.F.plainAttrs_list PySem.F.slot_list_reverse PySem.F.type_list_reverse WN (jv 10)))) qD)
       (ql (qV (Q0 PySem.F.plainAttrs_list PySem.F.slot_list_append PySem.F.type_list_append ju (jv 8) (qb
         (jl (qb (qW jg (jv 3) (jv 9) (λ_ _=>rfl)) (qb (qR Yh (by rfl) G.tup boot_tuple (qb (jv 10) qe)) qe))) qe)))))))
     (ql (qH (jv 8)))))))))))),?_⟩
   refine⟨_,rfl,_,rfl,d,mo,n,sd,t,rfl,hd,by omega,by omega,λr n1 t1 r0 r1=>⟨_,_,rfl,rfl,?_⟩⟩
   obtain⟨m,em,m0,m1⟩:∃m:Nat,1+r=(m:Int)/\0 < m/\m<=mo:=⟨(1+r).toNat,by omega,by omega,by omega⟩
   have em':(λi j:Int=>V.int (i+j)) 1 r=V.int (m:Int):=congrArg V.int em
   rw[em']
   refine⟨_,rfl,_,rfl,d,m,n1,sd,t1,rfl,qd,by omega,λlz zs n2 t2 H2 hlz hlz' zl zn znd hd2 fr2=>?_⟩
   have fr2:Fr H d H2:=Fr.refl.at_d.trans fr2
   refine⟨_,rfl,d,5,n2,sd,t2,rfl,hd2,by decide,by decide,λsh n3 t3 _ _=>?_⟩
   refine⟨_,rfl,_,rfl,_,rfl,_,rfl,d,5,n3,sd,t3,rfl,qd,by decide,by decide,λlw n4 t4 _ _=>⟨_,_,rfl,rfl,d,m,n4,sd,t4,sh,1+lw,rfl,qd,by omega,λlp ps ks n5 t5 H5 hlp hlp' pat kord klt k40 hd5 fr5=>?_⟩⟩
   have nzd:lz≠d:=λe=>by rw[e,qd]at hlz;cases hlz
   have hz5:H5 lz=some (.lst (zs.map V.str)):=fr5 _ _ (by rw[qg nzd,qg nzd];exact hlz') nzd
   have fr5:Fr H d H5:=fr2.at_d.at_d.trans fr5
   refine⟨_,rfl,d,2,n5,sd,t5,rfl,hd5,by decide,by decide,λab n6 t6 _ _=>⟨rfl,?_⟩⟩
   generalize decide (V.int ab=V.int 1)=b
   have npd:lp≠d:=λe=>by rw[e,qd]at hlp;cases hlp
   have fr6:Fr H d (upd H5 d (.dK (src n6 sd t6))):=fr5.at_d
   have hd6:upd H5 d (.dK (src n6 sd t6)) d=some (.dK (src n6 sd t6)):=qd
   have hz6:upd H5 d (.dK (src n6 sd t6)) lz=some (.lst (zs.map V.str)):=by rw[qg nzd];exact hz5
   have hp6:upd H5 d (.dK (src n6 sd t6)) lp=some (.lst (ps.map V.ref)):=by rw[qg npd];exact hlp'
   have pat6:Jw (upd H5 d (.dK (src n6 sd t6))) ps ks:=⟨pat.1,λi p k e1 e2=>by
     have h1:=pat.2 i p k e1 e2
     have:p≠d:=λe=>by rw[e,hd5]at h1;cases h1
     rw[qg this]
     exact h1⟩
   generalize upd H5 d (.dK (src n6 sd t6))=H6 at fr6 hd6 hz6 hp6 pat6
   refine⟨_,rfl,m,rfl,by omega,λlo hlo=>?_⟩
   refine zO ?_
   dsimp only[List.set]
   refine WW (λc H'=>c=b/\H'=upd H6 lo (.lst (x8 m))) (λσ' H'=>∃lo os,σ'=[some (.ref d),some (.int mo),some (.int m),some (.ref lz),some (.int sh),some (.ref lp),some (.bl b),some (.ref lo),none,none,none]/\Same H6 H'/\H6 lo=none/\H' lo=some (.lst (oL os))/\(os=List.range m\/os=ZP m))
     (λQ k=>⟨_,rfl,b,rfl,k _ _ ⟨rfl,rfl⟩⟩) ?_ ?_ ?_
   . rintro H1 ⟨rfl,rfl⟩ D' k
     refine⟨_,rfl,m,rfl,by omega,by omega,λD hD=>?_⟩
     refine Jv (λi σ' H'=>∃v:Option V,σ'=[v,some (.int m)]/\H'=upd (upd H6 lo (.lst (x8 m))) D (.lst (oL ((List.range i).map λk=>k*5 % m)))) ⟨none,rfl,rfl⟩ ?_ ?_
     . rintro i σ' H' hi ⟨v,rfl,rfl⟩
       rw[Int.zero_add]
       have hi:i < m:=by simpa using hi
       refine⟨_,rfl,_,_,rfl,rfl,.inl ⟨by omega,by omega⟩,_,rfl,_,_,rfl,rfl,(by show (0:Int) < m;omega),_,qd,?_,_,rfl,?_⟩
       . rw[List.length_map,List.length_map,List.length_range]
         exact qu (by omega)
       . rw[jN,List.range_succ,List.map_append,oL,oL,List.map_append]
         rfl
     . rintro σ' H' ⟨v,rfl,rfl⟩
       have hD6:H6 D=none:=by
         by_cases e:D=lo
         . rw[e];exact hlo
         . rw[qg e]at hD;exact hD
       exact k _ _ ⟨D,ZP m,rfl,λa u h=>qo (qo h hlo) hD,hD6,qd,.inr rfl⟩
   . rintro H1 ⟨rfl,rfl⟩
     exact⟨lo,List.range m,rfl,qk hlo,hlo,qd,.inl rfl⟩
   rintro σ' H7 ⟨lo,os,rfl,s7,hlo6,hlo7,hos⟩
   have los:os.length=m:=by
     rcases hos with rfl | rfl
     . exact List.length_range
     . rw[ZP,List.length_map,List.length_range]
   refine WW (λc H'=>Same H7 H'/\(c=true\/os.Nodup)) (λσ' H'=>∃lo os,σ'=[some (.ref d),some (.int mo),some (.int m),some (.ref lz),some (.int sh),some (.ref lp),some (.bl b),some (.ref lo),none,none,none]/\Same H6 H'/\H' lo=some (.lst (oL os))/\Wp m os)
     ?_ ?_ ?_ ?_
   . intro Q k
     refine⟨_,rfl,lo,os.map (λk=>((k:Nat):Int)),rfl,.of (by rw[<-xx];exact hlo7),by rw[List.length_map,los];omega,λl S hl=>?_⟩
     refine⟨l,S,_,rfl,qd,_,rfl,_,_,rfl,rfl,_,rfl,k _ _ ⟨qk hl,?_⟩⟩
     by_cases h:(((firstMet (λi=>(os.map λk=>((k:Nat):Int)).getD i 0) (os.map λk=>((k:Nat):Int)).length).length:Nat):Int) < (m:Int)
     . exact .inl (decide_eq_true h)
     . exact .inr (ut (by rw[los];omega))
   . rintro H1 ⟨s1,_⟩ D' k
     refine⟨_,rfl,m,rfl,by omega,λl hl=>?_⟩
     exact k _ _ ⟨l,Zn m,rfl,λa u h=>qo (s1 _ _ (s7 _ _ h)) hl,qd,WL m⟩
   . rintro H1 ⟨s1,h⟩
     have h:os.Nodup:=h.resolve_left (by decide)
     refine⟨lo,os,rfl,λa u h=>s1 _ _ (s7 _ _ h),s1 _ _ hlo7,?_⟩
     rcases hos with rfl | rfl
     . exact vV m
     . exact XN (by omega) m0 h
   rintro σ' H8 ⟨lo,os,rfl,s8,hlo8,ho⟩
   refine⟨by show 0<=sizeLine;decide,λlr hlr=>⟨_,rfl,lo,rfl,⟨_,.of (qo hlo8 hlr)⟩,?_⟩⟩
   refine QM (K:=K) (a:=lo) (xs:=oL os) (λi σ' H'=>∃(v9 v10:Option V) (qs:List Addr),σ'=[some (.ref d),some (.int mo),some (.int m),some (.ref lz),some (.int sh),some (.ref lp),some (.bl b),some (.ref lo),some (.ref lr),v9,v10]/\
     Same H8 H'/\H' lr=some (.lst (qs.map V.ref))/\jB H' qs ((os.take i).map (QJ zs ks b)))
     ⟨none,none,[],rfl,qk hlr,qd,rfl,λi p r e=>(nomatch e)⟩ (λi σ' H' _ ⟨_,_,_,_,s,_⟩=>.of (s _ _ hlo8)) ?_ ?_
   . rintro i x σ' H' hx ⟨v9,v10,qs,rfl,s9,hlr9,rat⟩
     have hix:i < os.length:=by
       have:=(List.getElem?_eq_some_iff.mp hx).1
       rwa [List.length_map]at this
     obtain⟨k,hk⟩:∃k,os[i]?=some k:=⟨_,List.getElem?_eq_getElem hix⟩
     have ex:x=V.int ((k:Nat):Int):=by
       rw[List.getElem?_map,hk]at hx
       exact(Option.some.inj hx).symm
     subst ex
     have hkm:k < m:=ho.lt k (List.mem_of_getElem? hk)
     refine⟨_,rfl,lp,rfl,⟨_,.of (s9 _ _ (s8 _ _ hp6))⟩,λD hD=>?_⟩
     have nDr:D≠lr:=λe=>by rw[e,hlr9]at hD;cases hD
     have hz9:H' lz=some (.lst (zs.map V.str)):=s9 _ _ (s8 _ _ hz6)
     have pat9:Jw H' ps ks:=pat6.mono λa u h=>s9 _ _ (s8 _ _ h)
     refine QP (K:=K) (a:=lp) (xs:=ps.map V.ref) (λj σ'' H''=>∃v0 v1:Option V,σ''=[v0,v1,some (.int k),some (.ref lz)]/\H''=upd H' D (.lst (((Yl (ks.take j) k).map (zc zs)).map V.str))) ⟨none,none,rfl,rfl⟩
       (λj σ'' G _ ⟨_,_,_,e⟩=>e▸.of (qo (s9 _ _ (s8 _ _ hp6)) hD)) ?_ ?_
     . rintro j y σ'' G hy ⟨v0,v1,rfl,rfl⟩
       have hj:j < ps.length:=by
         have:=(List.getElem?_eq_some_iff.mp hy).1
         rwa [List.length_map]at this
       obtain⟨p,hp⟩:∃p,ps[j]?=some p:=⟨_,List.getElem?_eq_getElem hj⟩
       obtain⟨kk,hkk⟩:∃p,ks[j]?=some p:=⟨_,List.getElem?_eq_getElem (by rw[<-pat9.1];exact hj)⟩
       have ey:y=V.ref p:=by
         rw[List.getElem?_map,hp]at hy
         exact(Option.some.inj hy).symm
       subst ey
       have hpt:=pat9.2 j p kk hp hkk
       have hk2:kk.2 < zs.length:=by rw[zl];exact(klt kk (List.mem_of_getElem? hkk)).2
       refine⟨p,_,rfl,.of (qo hpt hD),rfl,_,_,rfl,_,_,rfl,rfl,_,rfl,_,rfl,rfl,_,rfl,?_⟩
       rw[ve k hkk]
       by_cases e:kk.1=k
       . have e1:decide (V.int ((kk.1:Nat):Int)=V.int ((k:Nat):Int))=true:=decide_eq_true (by rw[e])
         rw[e1,if_pos e]
         refine Q3 ⟨_,rfl,_,rfl,lz,_,_,_,rfl,rfl,.of (qo hz9 hD),x6 hk2,_,qd,?_,_,_,rfl,?_⟩
         . rw[List.length_map,List.length_map]
           refine qu ?_
           have h1:(Yl (ks.take j) k).length<=(ks.take j).length:=by
             unfold Yl
             rw[List.length_map]
             exact List.length_filter_le _ _
           rw[List.length_take]at h1
           omega
         . rw[jN,List.map_append,List.map_append]
           rfl
       . have e1:decide (V.int ((kk.1:Nat):Int)=V.int ((k:Nat):Int))=false:=decide_eq_false (by
           intro z
           have:=V.int.inj z
           omega)
         rw[e1,if_neg e,List.append_nil]
         exact jP ⟨_,_,rfl,rfl⟩
     . rintro σ'' G ⟨v0,v1,rfl,rfl⟩
       rw[List.length_map,pat9.1,List.take_of_length_le (Nat.le_refl _)]
       refine zO ?_
       dsimp only[List.set]
       refine WW (λc G=>c=b/\G=upd H' D (.lst (((Yl ks k).map (zc zs)).map V.str)))
         (λσ' G=>σ'=[some (.ref d),some (.int mo),some (.int m),some (.ref lz),some (.int sh),some (.ref lp),some (.bl b),some (.ref lo),some (.ref lr),some (.int k),some (.ref D)]/\G=upd H' D (.lst ((QJ zs ks b k).2.map V.str)))
         (λQ k=>⟨_,rfl,b,rfl,k _ _ ⟨rfl,rfl⟩⟩) ?_ ?_ ?_
       . rintro H1 ⟨rfl,rfl⟩ D' kk
         refine⟨_,rfl,.inl ⟨rfl,_,.of qd⟩,D,_,rfl,rfl,qd,?_⟩
         refine kk _ _ ⟨rfl,?_⟩
         rw[jN,QJ,if_pos rfl,List.map_reverse]
       . rintro H1 ⟨rfl,rfl⟩
         exact⟨rfl,rfl⟩
       rintro σ' G ⟨rfl,rfl⟩
       have hlrG:upd H' D (.lst ((QJ zs ks b k).2.map V.str)) lr=some (.lst (qs.map V.ref)):=by rw[qg (Ne.symm nDr)];exact hlr9
       have sG:Same H' (upd H' D (.lst ((QJ zs ks b k).2.map V.str))):=qk hD
       refine⟨_,rfl,.inl ⟨rfl,_,.of hlrG⟩,_,rfl,_,rfl,lz,_,_,_,rfl,rfl,.of (sG _ _ hz9),x6 (by rw[zl];exact hkm),_,rfl,D,_,rfl,.inl ⟨.of qd,λlq hq=>⟨by show 2<=sizeLine;decide,λlt hlt=>?_⟩⟩⟩
       have hqlr:=qo (o':=HO.tup ((QJ zs ks b k).2.map V.str)) hlrG hq
       have htlr:=qo (o':=HO.tup [V.str (zc zs k),V.ref lq]) hqlr hlt
       refine⟨lr,_,_,rfl,rfl,htlr,?_,_,_,qs++[lt],rfl,?_,?_,?_⟩
       . rw[List.length_map,rat.1,List.length_map,List.length_take]
         refine qu ?_
         have:=ho.len
         omega
       . exact Same.upd (λa u h=>qo (qo (sG _ _ (s9 _ _ h)) hq) hlt) hlr
       . rw[List.map_append]
         exact qd
       . have e:os.take (i+1)=os.take i++[k]:=by rw[List.take_add_one,hk];rfl
         rw[e,List.map_append]
         refine jB.upd_lst ?_ htlr
         exact jB.snoc (q:=lq) (rat.mono λa u h=>qo (qo (sG _ _ h) hq) hlt) qd (qo qd hlt)
   . rintro σ' H' ⟨v9,v10,qs,rfl,s9,hlr9,rat⟩
     have e:(oL os).length=os.length:=List.length_map ..
     rw[e,List.take_of_length_le (Nat.le_refl _)]at rat
     have h8:H6 lr=none:=by
       cases z:H6 lr with
       | none=>rfl
       | some u=>rw[s8 _ _ z]at hlr;cases hlr
     refine⟨_,rfl,q lr qs _ n6 t6 H' (fr6.fresh hd6 h8) hlr9 rat (US b zl zn znd kord klt k40 ho) ?_ ?_ (s9 _ _ (s8 _ _ hd6)) (fr6.same λa u h=>s9 _ _ (s8 _ _ h))⟩
     . rw[List.length_map,ho.len];exact m0
     . rw[List.length_map,ho.len];exact m1
end
end Rh
set_option Elab.async false
set_option linter.all false
set_option maxRecDepth 100000
set_option maxHeartbeats 4000000
namespace Rh
open PySem L2 PyProof.Rows
abbrev Yo:Stmt:=top 16
abbrev zp:Stmt:=top 17
abbrev Vu:Stmt:=top 18
abbrev yV:Stmt:=top 19
abbrev Vv:Stmt:=top 20
abbrev yX:Stmt:=top 21
abbrev Yq:Stmt:=top 22
theorem yp (x:Str):[x].Nodup:=by simp
structure Qh (K:PySem.W.Frag) (mg:Str->Option Value):Prop where
 isi:mg "isinstance"=none
 str:mg "str"=none
 all:mg "all"=none
 enu:mg "enumerate"=none
 sum:mg "sum"=none
 lets:∃t,mg "LETTERS"=some (.str V8 t)
 lgst:∃t,mg "LONGEST_NAME"=some (.int 8 t)
 mp:∃t,mg "MOST_PLACES"=some (.int 14 t)
 mr:∃t,mg "MOST_ROADS"=some (.int 40 t)
 kss:PySem.W.kitOne K (.type "str") (.type "str")=some true
 ktt:PySem.W.kitOne K (.type "tuple") (.type "tuple")=some true
 kll:PySem.W.kitOne K (.type "list") (.type "list")=some true
theorem uI (c:Nat):(!(Builtin.Str.occurrences V8 ⟨#[c]⟩ 0 V8.length 1).isEmpty)=jF c:=by
 rw[StrLaws.found_one,yj]
 unfold jF
 rw[Bool.eq_iff_iff]
 simp only[decide_eq_true_eq,Bool.and_eq_true,List.mem_map,List.mem_range]
 constructor
 . rintro⟨k,hk,rfl⟩
   omega
 . intro h
   exact⟨c - 97,by omega,by omega⟩
theorem yi (f:Nat->Bool) (l:List Nat) (i c:Nat) (h:l[i]?=some c):(l.take i).map f++[f c]=(l.take (i+1)).map f:=by
 rw[List.take_add_one,h]
 simp
def yP:Sp:=λvs H Q _=>∃z,vs=[.str z]/\qN z=true/\∀H',Same H H'->Q (.bl true) H'
def Ks:Sp:=λvs H Q _=>∃(q:Addr) (zs:List Str),vs=[.ref q]/\H q=some (.tup (zs.map V.str))/\(∀z∈zs,qN z=true)/\zs.length<=1000/\∀H',Same H H'->Q (.bl true) H'
def wf:Sp:=λvs H Q _=>∃(p q:Addr) (r:Str×List Str),vs=[.ref p]/\H p=some (.tup [.str r.1,.ref q])/\H q=some (.tup (r.2.map V.str))/\qN r.1=true/\(∀z∈r.2,qN z=true)/\r.2.length<=1000/\∀H',Same H H'->Q (.bl true) H'
structure jy (H:Hp) (l:Addr) (ps:List Addr) (rs:List (Str×List Str)):Prop where
 at_:H l=some (.lst (ps.map V.ref))
 rows:jB H ps rs
 good:qI rs
 pos:0 < rs.length
 le:rs.length<=14
theorem jy.mono {H H':Hp} {l:Addr} {ps:List Addr} {rs:List (Str×List Str)} (h:jy H l ps rs) (s:Same H H'):jy H' l ps rs:=⟨s _ _ h.at_,h.rows.mono s,h.good,h.pos,h.le⟩
theorem qI.names {rs:List (Str×List Str)} (h:qI rs):∀r∈rs,∀z∈r.2,qN z=true:=λr hr z hz=>by
 obtain⟨r',hr',rfl⟩:=List.mem_map.mp (h.to r hr z hz)
 exact h.nm r' hr'
theorem qI.len {rs:List (Str×List Str)} (h:qI rs):∀r∈rs,r.2.length<=40:=λr hr=>by
 refine Nat.le_trans ?_ h.few
 have:∀(rs:List (Str×List Str)),r∈rs->r.2.length<=(rs.map λr=>r.2.length).sum:=by
   intro rs
   induction rs with
   | nil=>intro h;cases h
   | cons a rs ih=>
     intro h
     rw[List.map_cons,List.sum_cons]
     rcases List.mem_cons.mp h with rfl | h
     . omega
     . have:=ih h
       omega
 exact this rs hr
theorem jB.item {H:Hp} {ps:List Addr} {rs:List (Str×List Str)} (h:jB H ps rs) {i:Nat} {x:V} (hx:(ps.map V.ref)[i]?=some x):∃p q r,x=.ref p/\rs[i]?=some r/\r∈rs/\H p=some (.tup [.str r.1,.ref q])/\H q=some (.tup (r.2.map V.str)):=by
 rw[List.getElem?_map]at hx
 cases e:ps[i]? with
 | none=>rw[e]at hx;cases hx
 | some p=>
   rw[e]at hx
   have hi:i < rs.length:=by
     have:=(List.getElem?_eq_some_iff.mp e).1
     rw[h.1]at this
     exact this
   obtain⟨q,a,b⟩:=h.2 i p _ e (List.getElem?_eq_getElem hi)
   exact⟨p,q,_,(Option.some.inj hx).symm,List.getElem?_eq_getElem hi,List.getElem_mem hi,a,b⟩
def Zv:Sp:=λvs H Q _=>∃(l:Addr) (ps:List Addr) (rs:List (Str×List Str)),vs=[.ref l]/\jy H l ps rs/\∀H',Same H H'->Q .non H'
def wm:Sp:=λvs H Q _=>∃(l:Addr) (zs:List Str),vs=[.ref l]/\H l=some (.lst (zs.map V.str))/\zs.Nodup/\zs.length<=1000/\∀H',Same H H'->Q .non H'
def vx:Sp:=λvs H Q _=>∃(q l:Addr) (es zs:List Str),vs=[.ref q,.ref l]/\H q=some (.tup (es.map V.str))/\H l=some (.lst (zs.map V.str))/\es.Nodup/\(∀z∈es,z∈zs)/\es.length<=900/\∀H',Same H H'->Q .non H'
theorem J0 {kvs:List (qQ×V)} {k:qQ} (h:¬k∈kvs.map (·.1)):js kvs k=none:=by
 cases e:js kvs k with
 | none=>rfl
 | some v=>exact absurd (yB e) h
theorem Js (zs:List Str):(zs.map V.str).all Zm=true:=by
 rw[List.all_map,List.all_eq_true]
 intro z _
 rfl
theorem VT {z:Str} {zs:List Str} (h:z∈zs):Z4 (.str z) (zs.map V.str)=true:=by
 unfold Z4
 rw[List.any_eq_true]
 exact⟨.str z,List.mem_map.mpr ⟨z,h,rfl⟩,by show (z==z)=true;simp⟩
section
variable {P:Program} {w:World} {K:PySem.W.Frag} {mg:Str->Option Value} {base:Heap}
theorem wR:qA ["thing"] ["thing"] (qi Zc):=⟨rfl,rfl,rfl,by decide+kernel,rfl,by decide+kernel,by decide+kernel⟩
theorem Y7 {f:Addr} {fd:FuncData} (F:Qa K "is_name" "is_name" Zc f fd) (B:JF mg) (T:Qh K mg):qp P w K mg base q5 1 f fd ["thing"] yP:=by
 refine F.okJ wR (λvs H Q E h=>?_) (λcdv A outer s H vs Q E hr h=>?_)
 . obtain⟨x,rfl,_⟩:=h
   rfl
 . obtain⟨z,rfl,hz,q⟩:=h
   obtain⟨tl,hlets⟩:=T.lets
   obtain⟨tg,hlg⟩:=T.lgst
   refine⟨_,qh (jd (Qg (jS (qw jz (by rfl) T.isi boot_isinstance (qb (jv 0) (qb (Qx (v:=.ty "str") (by rfl) T.str boot_str rfl) qe))))) (ql (qH JM)) qD)
     (qh (jd (Jg (qv j3 (qw QX (by rfl) B.len boot_len (qb (jv 0) qe)) qj (qy _))
         (QA (qv XO (qw QX (by rfl) B.len boot_len (qb (jv 0) qe)) (Jr (v:=.int 8) (by rfl) hlg ⟨_,rfl⟩) (qy _)))).pt (ql (qH JM)) qD)
     (ql (qH (qw (YL rfl) (by rfl) T.all boot_all (qb (Zk (N':=["sign"]) (ix:=[none]) rfl ⟨rfl,rfl,rfl,rfl,rfl⟩ (uE (jv 0)) (λC s2 H2 fp pins=>
       ⟨qF (i:=0) (yp _) rfl (Or.inl rfl),Qc,Qn Ux (jv 0) (Jr (v:=.str V8) (by rfl) hlets ⟨_,rfl⟩) (by with_unfolding_all rfl)⟩)) qe))))),?_⟩
   have hn:=hz
   unfold qN at hn
   simp only[Bool.and_eq_true,decide_eq_true_eq]at hn
   obtain⟨⟨n1,n8⟩,na⟩:=hn
   have hz':z.length<=sizeLine:=Nat.le_of_lt (qu (by omega))
   refine⟨_,rfl,_,_,_,_,rfl,rfl,.str z,T.kss,_,rfl,jP ?_⟩
   refine⟨_,rfl,z,rfl,hz',_,_,rfl,rfl,_,rfl,?_⟩
   refine WU (λh=>?_) (λh=>?_)
   . exact absurd (of_decide_eq_true h) (by omega)
   . refine⟨_,rfl,z,rfl,hz',_,_,rfl,rfl,_,rfl,?_⟩
     refine WU (λh2=>?_) (λh2=>?_)
     . exact absurd (of_decide_eq_true h2) (by show ¬(8:Int) < (z.length:Int);omega)
     . refine⟨_,rfl,z,rfl,λD hD=>?_⟩
       refine xX (λi σ' H'=>∃v,σ'=[v]/\H'=upd H D (.lst (((z.cps.toList.take i).map jF).map V.bl))) ⟨none,rfl,rfl⟩ ?_ ?_
       . rintro i c σ' H' hc ⟨v,rfl,rfl⟩
         refine⟨_,rfl,_,_,rfl,rfl,_,qd,?_,?_⟩
         . rw[List.length_map,List.length_map,List.length_take]
           exact Nat.lt_of_le_of_lt (Nat.min_le_right _ _) (qu (show z.cps.toList.length<=1000 by rw[Array.length_toList];exact Nat.le_trans n8 (by decide)))
         . refine⟨_,rfl,?_⟩
           rw[jN,uI]
           have hc':z.cps.toList[i]?=some c:=by simpa using hc
           rw[<-yi jF z.cps.toList i c hc',List.map_append]
           rfl
       . rintro σ' H' ⟨v,rfl,rfl⟩
         refine⟨D,_,rfl,.of qd,?_⟩
         have e0:z.cps.toList.take z.cps.size=z.cps.toList:=List.take_of_length_le (by simp)
         have e1:(z.cps.toList.map jF).all id=true:=by rw[List.all_map];exact na
         rw[e0,e1]
         exact q _ (qk hD)
theorem wQ:qA ["thing"] ["thing"] (qi Yo):=⟨rfl,rfl,rfl,by decide+kernel,rfl,by decide+kernel,by decide+kernel⟩
theorem xk {f fN:Addr} {fd fdN:FuncData} (F:Qa K "is_tuple_of_names" "is_tuple_of_names" Yo f fd) (B:JF mg) (G:Qi mg) (T:Qh K mg) (hN:jC K mg "is_name" Zc ["thing"] fN fdN):qp P w K mg base q5 2 f fd ["thing"] Ks:=by
 have GN:qp P w K mg base q5 1 fN fdN ["thing"] yP:=Y7 hN.fn B T
 refine F.okJ wQ (λvs H Q E h=>?_) (λcdv A outer s H vs Q E hr h=>?_)
 . obtain⟨x,zs,rfl,_⟩:=h
   rfl
 . obtain⟨x,zs,rfl,hx,hz,hl,q⟩:=h
   refine⟨_,ql (qH (Xl (qw jz (by rfl) T.isi boot_isinstance (qb (jv 0) (qb (Qx (v:=.ty "tuple") (by rfl) G.tup boot_tuple rfl) qe)))
     (Xj (qw (YL rfl) (by rfl) T.all boot_all (qb (Zk (N':=["part"]) (ix:=[none]) rfl ⟨rfl,rfl,rfl,rfl,rfl⟩ (kG (jv 0)) (λC s2 H2 fp pins=>
       ⟨qF (i:=0) (yp _) rfl (Or.inl rfl),Qc,qP hN GN hr (by rfl) (qb (jv 0) qe)⟩)) qe))))),?_⟩
   refine⟨_,rfl,_,_,_,_,rfl,rfl,.tup hx,T.ktt,_,rfl,Q3 ⟨_,rfl,x,rfl,⟨_,.of hx⟩,λD hD=>?_⟩⟩
   refine xW (K:=K) (a:=x) (xs:=zs.map V.str) (λi σ' H'=>∃v,σ'=[v]/\Same H H'/\H' D=some (.lst ((List.replicate i true).map V.bl))) ⟨none,rfl,qk hD,qd⟩ (λi σ' H' _ ⟨_,_,s,_⟩=>.of (s _ _ hx)) ?_ ?_
   . rintro i y σ' H' hy ⟨v,rfl,s1,hD1⟩
     rw[List.getElem?_map]at hy
     cases e:zs[i]? with
     | none=>rw[e]at hy;cases hy
     | some z=>
       rw[e]at hy
       obtain rfl:=(Option.some.inj hy).symm
       have hi:=(List.getElem?_eq_some_iff.mp e).1
       refine⟨_,rfl,z,rfl,hz z (List.mem_of_getElem? e),λH2 s2=>⟨_,s2 _ _ hD1,?_,_,rfl,?_,?_⟩⟩
       . rw[List.length_map,List.length_replicate]
         exact qu (by omega)
       . exact Same.upd (s1.trans s2) hD
       . rw[qd,List.replicate_succ',List.map_append]
         rfl
   . rintro σ' H' ⟨v,rfl,s1,hD1⟩
     refine⟨D,_,rfl,.of hD1,?_⟩
     have e:(List.replicate (zs.map V.str).length true).all id=true:=by simp
     rw[e]
     exact q _ s1
theorem yU:qA ["thing"] ["thing"] (qi zp):=⟨rfl,rfl,rfl,by decide+kernel,rfl,by decide+kernel,by decide+kernel⟩
theorem kj {f fN fP:Addr} {fd fdN fdP:FuncData} (F:Qa K "is_row" "is_row" zp f fd) (B:JF mg) (G:Qi mg) (T:Qh K mg) (hN:jC K mg "is_name" Zc ["thing"] fN fdN) (hP:jC K mg "is_tuple_of_names" Yo ["thing"] fP fdP):qp P w K mg base q5 3 f fd ["thing"] wf:=by
 have GN:qp P w K mg base q5 1 fN fdN ["thing"] yP:=Y7 hN.fn B T
 have GP:qp P w K mg base q5 2 fP fdP ["thing"] Ks:=xk hP.fn B G T hN
 refine F.okJ yU (λvs H Q E h=>?_) (λcdv A outer s H vs Q E hr h=>?_)
 . obtain⟨p,x,r,rfl,_⟩:=h
   rfl
 . obtain⟨p,x,r,rfl,hp,hx,hn,hz,hl,q⟩:=h
   refine⟨_,qh (jd (Jg (Qg (jS (qw jz (by rfl) T.isi boot_isinstance (qb (jv 0) (qb (Qx (v:=.ty "tuple") (by rfl) G.tup boot_tuple rfl) qe)))))
       (QA (qv vW (qw qz (by rfl) B.len boot_len (qb (jv 0) qe)) qj (qy _)))).pt qZ qD)
     (ql (qH (Xl (qP hN GN (hr.mono (by decide)) (by rfl) (qb (qW jG (jv 0) qj (λ_ _=>rfl)) qe)) (Xj (qP hP GP hr (by rfl) (qb (qW jG (jv 0) qj (λ_ _=>rfl)) qe)))))),?_⟩
   refine⟨_,rfl,_,_,_,_,rfl,rfl,.tup hp,T.ktt,_,rfl,jP ⟨_,rfl,p,_,rfl,.inr (.of hp),rfl,_,rfl,jP ?_⟩⟩
   refine⟨_,rfl,p,_,0,_,rfl,rfl,.of hp,rfl,r.1,rfl,hn,λH1 s1=>⟨_,rfl,Q3 ?_⟩⟩
   exact⟨_,rfl,p,_,1,_,rfl,rfl,.of (s1 _ _ hp),rfl,x,r.2,rfl,s1 _ _ hx,hz,hl,λH2 s2=>q H2 (s1.trans s2)⟩
end
end Rh
set_option Elab.async false
set_option linter.all false
set_option maxRecDepth 100000
set_option maxHeartbeats 4000000
namespace Rh
open PySem L2 PyProof.Rows
section
variable {P:Program} {w:World} {K:PySem.W.Frag} {mg:Str->Option Value} {base:Heap}
abbrev KW:List Str:=["rows","number","row"]
theorem WG:qA KW ["rows"] (qi Vu):=⟨rfl,rfl,rfl,by decide+kernel,rfl,by decide+kernel,by decide+kernel⟩
theorem xr {f fN fP fR:Addr} {fd fdN fdP fdR:FuncData} (F:Qa K "need_form" "need_form" Vu f fd) (B:JF mg) (G:Qi mg) (T:Qh K mg) (hN:jC K mg "is_name" Zc ["thing"] fN fdN) (hP:jC K mg "is_tuple_of_names" Yo ["thing"] fP fdP)
   (hR:jC K mg "is_row" zp ["thing"] fR fdR):qp P w K mg base q5 4 f fd ["rows"] Zv:=by
 have GR:qp P w K mg base q5 3 fR fdR ["thing"] wf:=kj hR.fn B G T hN hP
 obtain⟨tm,hmp⟩:=T.mp
 refine F.okJ WG (λvs H Q E h=>?_) (λcdv A outer s H vs Q E hr h=>?_)
 . obtain⟨l,ps,rs,rfl,_⟩:=h
   rfl
 . obtain⟨l,ps,rs,rfl,g,q⟩:=h
   refine⟨_,qh (jd (Jg (Qg (jS (qw jz (by rfl) T.isi boot_isinstance (qb (jv 0) (qb (Qx (v:=.ty "list") (by rfl) G.lst boot_list rfl) qe)))))
       (QA (qv j6 (qw qz (by rfl) B.len boot_len (qb (jv 0) qe)) qj (qy _)))).pt qZ qD)
     (qh (jd (qv XO (qw qz (by rfl) B.len boot_len (qb (jv 0) qe)) (Jr (v:=.int 14) (by rfl) hmp ⟨_,rfl⟩) (qy _)) qZ qD)
     (ql (j0 PassesOwn.never rfl (Xi (by rfl) T.enu (qb (jv 0) qe)) (JV rfl (jq (qF (i:=1) WG.nd rfl (Or.inl rfl)) (jq (qF (i:=2) WG.nd rfl (Or.inl rfl)) QT)))
       (ql (jd (Qg (jS (qP hR GR hr (by rfl) (qb (jv 2) qe)))) qZ qD))))),?_⟩
   have lp:(ps.map V.ref).length=rs.length:=by rw[List.length_map,g.rows.1]
   refine⟨_,rfl,_,_,_,_,rfl,rfl,.lst g.at_,T.kll,_,rfl,jP ⟨_,rfl,l,_,rfl,.inl (.of g.at_),rfl,_,rfl,?_⟩⟩
   have e0:decide (V.int (((ps.map V.ref).length:Nat):Int)=V.int 0)=false:=decide_eq_false (by
     intro z
     have:=V.int.inj z
     have:=g.pos
     omega)
   rw[e0]
   refine jP ⟨_,rfl,l,_,rfl,.inl (.of g.at_),_,_,rfl,rfl,_,rfl,?_⟩
   have e1:decide ((14:Int) < (((ps.map V.ref).length:Nat):Int))=false:=decide_eq_false (by
     have:=g.le
     omega)
   refine WU (λz=>absurd z (by rw[e1];decide)) (λ_=>?_)
   refine⟨_,rfl,l,rfl,⟨_,.of g.at_⟩,?_⟩
   refine zQ (K:=K) (a:=l) (xs:=ps.map V.ref) (λi σ' H'=>∃v1 v2,σ'=[some (.ref l),v1,v2]/\Same H H') ⟨none,none,rfl,Same.refl H⟩ (λi σ' H' _ ⟨_,_,_,s⟩=>.of (s _ _ g.at_)) ?_ ?_
   . rintro i x σ' H' p hx hp ⟨v1,v2,rfl,s1⟩
     have g1:=g.mono (s1.trans (qk (o:=.tup [.int (i:Nat),x]) hp))
     obtain⟨p',q',r,rfl,_,hr',a,b⟩:=g1.rows.item hx
     refine⟨p,_,rfl,.of qd,rfl,_,_,rfl,_,_,rfl,rfl,_,rfl,p',q',r,rfl,a,b,g.good.nm r hr',g.good.names r hr',Nat.le_trans (g.good.len r hr') (by decide),λH2 s2=>⟨_,rfl,jP ⟨_,_,rfl,?_⟩⟩⟩
     exact(s1.trans (qk hp)).trans s2
   . rintro σ' H' ⟨v1,v2,rfl,s1⟩
     exact q H' s1
abbrev RA:List Str:=["order","ahead","name"]
theorem vD:qA RA ["order"] (qi yV):=⟨rfl,rfl,rfl,by decide+kernel,rfl,by decide+kernel,by decide+kernel⟩
theorem Zx {zs:List Str} (hn:zs.Nodup) {i:Nat} {z:Str} (e:zs[i]?=some z):¬(Sum.inr z:qQ)∈(zs.take i).map Sum.inr:=λh=>by
 obtain⟨y,hy,ey⟩:=List.mem_map.mp h
 have ey':y=z:=Sum.inr.inj ey
 subst ey'
 obtain⟨j,hj⟩:=List.getElem?_of_mem hy
 have hj1:=(List.getElem?_eq_some_iff.mp hj).1
 rw[List.length_take]at hj1
 have hji:j < i:=by omega
 rw[List.getElem?_take_of_lt hji]at hj
 have h1:=(List.getElem?_eq_some_iff.mp hj)
 have h2:=(List.getElem?_eq_some_iff.mp e)
 exact absurd (h1.2.trans h2.2.symm) (List.pairwise_iff_getElem.mp hn j i h1.1 h2.1 hji)
theorem Y5 {kvs:List (qQ×V)} {k:qQ} (v:V) (h:js kvs k=none):(jD kvs k v).map (·.1)=kvs.map (·.1)++[k]:=by
 rw[XJ v h,List.map_append]
 rfl
theorem uh {f:Addr} {fd:FuncData} (F:Qa K "need_own_names" "need_own_names" yV f fd):qp P w K mg base q5 1 f fd ["order"] wm:=by
 refine F.okJ vD (λvs H Q E h=>?_) (λcdv A outer s H vs Q E hr h=>?_)
 . obtain⟨l,zs,rfl,_⟩:=h
   rfl
 . obtain⟨l,zs,rfl,hl,hn,hz,q⟩:=h
   have hu:=JN hr
   refine⟨_,qh (qt (i:=1) vD.nd rfl (Or.inl rfl) zM)
     (ql (j0 PassesOwn.never rfl (jW (jv 0)) (qF (i:=2) vD.nd rfl (Or.inl rfl))
       (qh (jd (WS (kO hu (jv 2) (jv 1))) qZ qD) (ql (j5 hu (jv 1) (jv 2) JM rfl))))),?_⟩
   intro D hD
   refine⟨_,rfl,l,rfl,⟨_,.of (qo hl hD)⟩,?_⟩
   refine QM (K:=K) (a:=l) (xs:=zs.map V.str) (λi σ' H'=>∃v kvs,σ'=[some (.ref l),some (.ref D),v]/\Same H H'/\H' D=some (.dK kvs)/\kvs.map (·.1)=(zs.take i).map Sum.inr) ⟨none,[],rfl,qk hD,qd,rfl⟩ (λi σ' H' _ ⟨_,_,_,s,_⟩=>.of (s _ _ hl)) ?_ ?_
   . rintro i x σ' H' hx ⟨v,kvs,rfl,s1,hD1,ek⟩
     rw[List.getElem?_map]at hx
     cases e:zs[i]? with
     | none=>rw[e]at hx;cases hx
     | some z=>
       rw[e]at hx
       obtain rfl:=(Option.some.inj hx).symm
       have hi:=(List.getElem?_eq_some_iff.mp e).1
       have ez:js kvs (Sum.inr z:qQ)=none:=J0 (by rw[ek];exact Zx hn e)
       have gz:Qj H' D (.str z) none:=by
         have:=Qj.k (k:=(Sum.inr z:qQ)) hD1
         rw[ez]at this
         exact this
       have lk:kvs.length < sizeLine:=by
         have:=congrArg List.length ek
         rw[List.length_map,List.length_map,List.length_take]at this
         exact qu (by omega)
       refine⟨_,rfl,_,rfl,D,none,rfl,gz,_,rfl,jP ?_⟩
       refine⟨_,rfl,_,rfl,D,_,rfl,JD.k (k:=(Sum.inr z:qQ)) hD1 lk,_,_,rfl,Same.upd s1 hD,qd,?_⟩
       rw[Y5 _ ez,ek,List.take_add_one,e,List.map_append]
       rfl
   . rintro σ' H' ⟨v,kvs,rfl,s1,_⟩
     exact q H' s1
abbrev KY:List Str:=["ends","order","ahead","name"]
theorem WH:qA KY ["ends","order"] (qi Vv):=⟨rfl,rfl,rfl,by decide+kernel,rfl,by decide+kernel,by decide+kernel⟩
theorem xt {f:Addr} {fd:FuncData} (F:Qa K "need_ends" "need_ends" Vv f fd):qp P w K mg base q5 1 f fd ["ends","order"] vx:=by
 refine F.okJ WH (λvs H Q E h=>?_) (λcdv A outer s H vs Q E hr h=>?_)
 . obtain⟨x,l,es,zs,rfl,_⟩:=h
   rfl
 . obtain⟨x,l,es,zs,rfl,hx,hl,hn,hin,hz,q⟩:=h
   have hu:=JN hr
   refine⟨_,qh (qt (i:=2) WH.nd rfl (Or.inl rfl) zM)
     (ql (j0 PassesOwn.never rfl (kG (jv 0)) (qF (i:=3) WH.nd rfl (Or.inl rfl))
       (qh (jd (qv Zh (jv 3) (jv 1) (by with_unfolding_all rfl)) qZ qD)
       (qh (jd (WS (kO hu (jv 3) (jv 2))) qZ qD) (ql (j5 hu (jv 2) (jv 3) JM rfl)))))),?_⟩
   intro D hD
   refine⟨_,rfl,x,rfl,⟨_,.of (qo hx hD)⟩,?_⟩
   refine xP (K:=K) (a:=x) (xs:=es.map V.str) (λi σ' H'=>∃v kvs,σ'=[some (.ref x),some (.ref l),some (.ref D),v]/\Same H H'/\H' D=some (.dK kvs)/\kvs.map (·.1)=(es.take i).map Sum.inr) ⟨none,[],rfl,qk hD,qd,rfl⟩ (λi σ' H' _ ⟨_,_,_,s,_⟩=>.of (s _ _ hx)) ?_ ?_
   . rintro i y σ' H' hy ⟨v,kvs,rfl,s1,hD1,ek⟩
     rw[List.getElem?_map]at hy
     cases e:es[i]? with
     | none=>rw[e]at hy;cases hy
     | some z=>
       rw[e]at hy
       obtain rfl:=(Option.some.inj hy).symm
       have hi:=(List.getElem?_eq_some_iff.mp e).1
       have ez:js kvs (Sum.inr z:qQ)=none:=J0 (by rw[ek];exact Zx hn e)
       have gz:Qj H' D (.str z) none:=by
         have:=Qj.k (k:=(Sum.inr z:qQ)) hD1
         rw[ez]at this
         exact this
       have lk:kvs.length < sizeLine:=by
         have:=congrArg List.length ek
         rw[List.length_map,List.length_map,List.length_take]at this
         exact qu (by omega)
       refine⟨_,rfl,_,rfl,l,_,rfl,.inl (.of (s1 _ _ hl)),rfl,Js zs,_,rfl,?_⟩
       rw[VT (hin z (List.mem_of_getElem? e))]
       refine jP ⟨_,rfl,_,rfl,D,none,rfl,gz,_,rfl,jP ?_⟩
       refine⟨_,rfl,_,rfl,D,_,rfl,JD.k (k:=(Sum.inr z:qQ)) hD1 lk,_,_,rfl,Same.upd s1 hD,qd,?_⟩
       rw[Y5 _ ez,ek,List.take_add_one,e,List.map_append]
       rfl
   . rintro σ' H' ⟨v,kvs,rfl,s1,_⟩
     exact q H' s1
abbrev RE:List Str:=["rows","many"]
theorem wv:qA RE ["rows"] (qi yX):=⟨rfl,rfl,rfl,by decide+kernel,rfl,by decide+kernel,by decide+kernel⟩
theorem ul {f:Addr} {fd:FuncData} (F:Qa K "need_few_roads" "need_few_roads" yX f fd) (B:JF mg) (T:Qh K mg):qp P w K mg base q5 1 f fd ["rows"] Zv:=by
 obtain⟨tm,hmr⟩:=T.mr
 refine F.okJ wv (λvs H Q E h=>?_) (λcdv A outer s H vs Q E hr h=>?_)
 . obtain⟨l,ps,rs,rfl,_⟩:=h
   rfl
 . obtain⟨l,ps,rs,rfl,g,q⟩:=h
   refine⟨_,qh (qt (i:=1) wv.nd rfl (Or.inl rfl) (qw (U1 rfl) (by rfl) T.sum boot_sum (qb (Zk (N':=["row"]) (ix:=[none]) (te:=wc (λxs H Q=>∃p ys,xs=[.ref p]/\(SqL K H p ys\/SqT K H p ys)/\Q (.int ys.length) H) (jc (Xx (Ur K) (jt 0) (tC (.int 1))) Qk)) rfl ⟨rfl,rfl,rfl,rfl,rfl⟩ (jW (jv 0)) (λC s2 H2 fp pins=>
       ⟨qF (i:=0) (yp _) rfl (Or.inl rfl),Qc,qw qz (by rfl) B.len boot_len (qb (qW jG (jv 0) qj (λ_ _=>rfl)) qe)⟩)) qe)))
     (ql (jd (qv XO (jv 1) (Jr (v:=.int 40) (by rfl) hmr ⟨_,rfl⟩) (qy _)) qZ qD)),?_⟩
   refine⟨_,rfl,l,rfl,⟨_,.of g.at_⟩,λD hD=>?_⟩
   refine QP (K:=K) (a:=l) (xs:=ps.map V.ref) (λi σ' H'=>∃v,σ'=[v]/\H'=upd H D (.lst (((rs.take i).map λr=>r.2.length).map λn=>V.int ((n:Nat):Int)))) ⟨none,rfl,rfl⟩ (λi σ' H' _ ⟨_,_,e⟩=>e▸.of (qo g.at_ hD)) ?_ ?_
   . rintro i x σ' H' hx ⟨v,rfl,rfl⟩
     obtain⟨p',q',r,rfl,er,hr',a,b⟩:=g.rows.item hx
     have hi:=(List.getElem?_eq_some_iff.mp er).1
     refine⟨_,rfl,p',_,1,_,rfl,rfl,.of (qo a hD),rfl,q',_,rfl,.inr (.of (qo b hD)),_,qd,?_,_,rfl,?_⟩
     . rw[List.length_map,List.length_map,List.length_take]
       have:=g.le
       exact qu (by omega)
     . rw[jN,List.take_add_one,er,List.map_append,List.map_append,List.length_map]
       rfl
   . rintro σ' H' ⟨v,rfl,rfl⟩
     have e:rs.take (ps.map V.ref).length=rs:=List.take_of_length_le (by rw[List.length_map,g.rows.1];exact Nat.le_refl _)
     rw[e]
     refine⟨D,_,rfl,.of qd,Nat.lt_of_le_of_lt g.good.few (by decide),?_⟩
     refine⟨_,rfl,_,_,rfl,rfl,_,rfl,?_⟩
     have:=g.good.few
     refine WU (λz=>absurd (of_decide_eq_true z) ?_) (λ_=>q _ (qk hD))
     show ¬(40:Int) < _
     omega
abbrev KR:List Str:=["rows","order","row"]
theorem WE:qA KR ["rows"] (qi Yq):=⟨rfl,rfl,rfl,by decide+kernel,rfl,by decide+kernel,by decide+kernel⟩
structure yo (K:PySem.W.Frag) (mg:Str->Option Value):Prop where
 nm:∃f fd,jC K mg "is_name" Zc ["thing"] f fd
 tn:∃f fd,jC K mg "is_tuple_of_names" Yo ["thing"] f fd
 rw:∃f fd,jC K mg "is_row" zp ["thing"] f fd
 fo:∃f fd,jC K mg "need_form" Vu ["rows"] f fd
 ow:∃f fd,jC K mg "need_own_names" yV ["order"] f fd
 en:∃f fd,jC K mg "need_ends" Vv ["ends","order"] f fd
 fw:∃f fd,jC K mg "need_few_roads" yX ["rows"] f fd
theorem xo {f:Addr} {fd:FuncData} (F:Qa K "need_rows" "need_rows" Yq f fd) (B:JF mg) (G:Qi mg) (T:Qh K mg) (N:yo K mg):qp P w K mg base q5 5 f fd ["rows"] Zv:=by
 obtain⟨fN,fdN,hN⟩:=N.nm
 obtain⟨fP,fdP,hP⟩:=N.tn
 obtain⟨fR,fdR,hR⟩:=N.rw
 obtain⟨fF,fdF,hF⟩:=N.fo
 obtain⟨fO,fdO,hO⟩:=N.ow
 obtain⟨fE,fdE,hE⟩:=N.en
 obtain⟨fW,fdW,hW⟩:=N.fw
 have GF:qp P w K mg base q5 4 fF fdF ["rows"] Zv:=xr hF.fn B G T hN hP hR
 have GO:qp P w K mg base q5 1 fO fdO ["order"] wm:=uh hO.fn
 have GE:qp P w K mg base q5 1 fE fdE ["ends","order"] vx:=xt hE.fn
 have GW:qp P w K mg base q5 1 fW fdW ["rows"] Zv:=ul hW.fn B T
 refine F.okJ WE (λvs H Q E h=>?_) (λcdv A outer s H vs Q E hr h=>?_)
 . obtain⟨l,ps,rs,rfl,_⟩:=h
   rfl
 . obtain⟨l,ps,rs,rfl,g,q⟩:=h
   refine⟨_,qh (qV (qP hF GF hr (by rfl) (qb (jv 0) qe)))
     (qh (zJ (i:=1) (N':=["row"]) (ix:=[none]) (te:=Xx (Ur K) (jt 0) (tC (.int 0))) WE.nd rfl (Or.inl rfl) rfl ⟨rfl,rfl,rfl,rfl,rfl⟩ (jW (jv 0)) (λC s2 H2 fp pins=>
       ⟨qF (i:=0) (yp _) rfl (Or.inl rfl),Qc,qW jG (jv 0) qj (λ_ _=>rfl)⟩))
     (qh (qV (qP hO GO (hr.mono (by decide)) (by rfl) (qb (jv 1) qe)))
     (qh (j0 PassesOwn.never rfl (jW (jv 0)) (qF (i:=2) WE.nd rfl (Or.inl rfl))
       (ql (qV (qP hE GE (hr.mono (by decide)) (by rfl) (qb (qW jG (jv 2) qj (λ_ _=>rfl)) (qb (jv 1) qe))))))
     (ql (qV (qP hW GW (hr.mono (by decide)) (by rfl) (qb (jv 0) qe))))))),?_⟩
   refine⟨_,rfl,l,ps,rs,rfl,g,λH1 s1=>?_⟩
   have g1:=g.mono s1
   refine⟨_,rfl,l,rfl,⟨_,.of g1.at_⟩,λD hD=>?_⟩
   refine QP (K:=K) (a:=l) (xs:=ps.map V.ref) (λi σ' H'=>∃v,σ'=[v]/\H'=upd H1 D (.lst (((rs.take i).map (·.1)).map V.str))) ⟨none,rfl,rfl⟩ (λi σ' H' _ ⟨_,_,e⟩=>e▸.of (qo g1.at_ hD)) ?_ ?_
   . rintro i x σ' H' hx ⟨v,rfl,rfl⟩
     obtain⟨p',q',r,rfl,er,hr',a,b⟩:=g1.rows.item hx
     have hi:=(List.getElem?_eq_some_iff.mp er).1
     refine⟨_,rfl,p',_,0,_,rfl,rfl,.of (qo a hD),rfl,_,qd,?_,_,rfl,?_⟩
     . rw[List.length_map,List.length_map,List.length_take]
       have:=g.le
       exact qu (by omega)
     . rw[jN,List.take_add_one,er,List.map_append,List.map_append]
       rfl
   . rintro σ' H' ⟨v,rfl,rfl⟩
     have e:rs.take (ps.map V.ref).length=rs:=List.take_of_length_le (by rw[List.length_map,g.rows.1];exact Nat.le_refl _)
     rw[e]
     refine⟨_,rfl,D,rs.map (·.1),rfl,qd,g.good.nd,by rw[List.length_map];have:=g.le;omega,λH2 s2=>?_⟩
     have sD:Same H1 H2:=(qk hD).trans s2
     have hD2:H2 D=some (.lst ((rs.map (·.1)).map V.str)):=s2 _ _ qd
     have g2:=g1.mono sD
     refine⟨_,rfl,l,rfl,⟨_,.of g2.at_⟩,?_⟩
     refine QM (K:=K) (a:=l) (xs:=ps.map V.ref) (λi σ' H'=>∃v,σ'=[some (.ref l),some (.ref D),v]/\Same H2 H') ⟨none,rfl,Same.refl H2⟩ (λi σ' H' _ ⟨_,_,s⟩=>.of (s _ _ g2.at_)) ?_ ?_
     . rintro i x σ' H' hx ⟨v,rfl,s3⟩
       obtain⟨p',q',r,rfl,er,hr',a,b⟩:=(g2.mono s3).rows.item hx
       refine⟨_,rfl,p',_,1,_,rfl,rfl,.of a,rfl,_,rfl,q',D,r.2,rs.map (·.1),rfl,b,s3 _ _ hD2,g.good.rd r hr',g.good.to r hr',Nat.le_trans (g.good.len r hr') (by decide),λH4 s4=>⟨_,rfl,s3.trans s4⟩⟩
     . rintro σ' H' ⟨v,rfl,s3⟩
       exact⟨_,rfl,l,ps,rs,rfl,g2.mono s3,λH4 s4=>q H4 (((s1.trans sD).trans s3).trans s4)⟩
end
end Rh
set_option Elab.async false
set_option linter.all false
set_option maxRecDepth 100000
set_option maxHeartbeats 4000000
namespace Rh
open PySem L2 PyProof.Rows
abbrev WI:Stmt:=Z5 (top 23) 0
abbrev Zd:Stmt:=Z5 (top 23) 1
abbrev zq:Stmt:=Z5 (top 23) 2
def JU (rs:List (Str×List Str)) (r:Str×List Str):List Str:=(rs.map (·.1)).filter λz=>Z4 (.str z) (r.2.map V.str)
def Qt (CG:Addr) (H:Hp) (a:Addr) (rs:List (Str×List Str)):Prop:=∃(dx lo rd:Addr) (kvs:List (qQ×V)),H a=some (.ins CG dx [("order",.ref lo),("roads",.ref rd)])/\H lo=some (.lst ((rs.map (·.1)).map V.str))/\H rd=some (.dK kvs)/\
 ∀r∈rs,∃q,js kvs (Sum.inr r.1)=some (.ref q)/\H q=some (.lst ((JU rs r).map V.str))
theorem Qt.mono {CG:Addr} {H H':Hp} {a:Addr} {rs:List (Str×List Str)} (h:Qt CG H a rs) (s:Same H H'):Qt CG H' a rs:=by
 obtain⟨dx,lo,rd,kvs,h1,h2,h3,h4⟩:=h
 exact⟨dx,lo,rd,kvs,s _ _ h1,s _ _ h2,s _ _ h3,λr hr=>let ⟨q,a,b⟩:=h4 r hr;⟨q,a,s _ _ b⟩⟩
theorem jy.fr {H H':Hp} {l x C dx:Addr} {fs:List (Str×V)} {ps:List Addr} {rs:List (Str×List Str)} (h:jy H l ps rs) (hx:H x=some (.ins C dx fs)) (s:Fr H x H'):jy H' l ps rs:=by
 refine⟨s _ _ h.at_ (λe=>?_),⟨h.rows.1,λi p r e1 e2=>?_⟩,h.good,h.pos,h.le⟩
 . have:=h.at_
   rw[e,hx]at this
   cases this
 . obtain⟨q,a,b⟩:=h.rows.2 i p r e1 e2
   exact⟨q,s _ _ a (λe=>by rw[e,hx]at a;cases a),s _ _ b (λe=>by rw[e,hx]at b;cases b)⟩
structure Gz (K:PySem.W.Frag) (mg:Str->Option Value) (CG f:Addr) (fd:FuncData):Prop where
 cl:Vc K CG
 mkr:Mk K CG f
 ns:mg "Ground"=some (.ref CG)
 no:j9 K CG "order"
 nr:j9 K CG "roads"
 fn:Qa K "__init__" "Ground.__init__" WI f fd
 bi:jE K fd ["self","rows"] []
theorem nor:¬(Str.ofString "order")=Str.ofString "roads":=by decide+kernel
theorem Rw (v:V):QR (Str.ofString "order") v []=[(Str.ofString "order",v)]:=rfl
theorem Rv (v u:V):QR (Str.ofString "roads") u [(Str.ofString "order",v)]=[(Str.ofString "order",v),(Str.ofString "roads",u)]:=by
 unfold QR
 rw[if_neg nor]
 rfl
theorem lkO (v u:V):([(Str.ofString "order",v),(Str.ofString "roads",u)]:List (Str×V)).lookup (Str.ofString "order")=some v:=by simp [List.lookup]
theorem RG (v u:V):([(Str.ofString "order",v),(Str.ofString "roads",u)]:List (Str×V)).lookup (Str.ofString "roads")=some u:=by
 have e:((Str.ofString "roads")==(Str.ofString "order"))=false:=by decide+kernel
 simp [List.lookup,e]
def ZZ (CG:Addr):Sp:=λvs H Q _=>∃(x dx l:Addr) (ps:List Addr) (rs:List (Str×List Str)),vs=[.ref x,.ref l]/\jy H l ps rs/\H x=some (.ins CG dx [])/\∀H',Qt CG H' x rs->Fr H x H'->Q .non H'
def XF (CG:Addr):Sp:=λvs H Q _=>∃(a:Addr) (rs:List (Str×List Str)),vs=[.ref a]/\Qt CG H a rs/\∀l,H l=none->Q (.ref l) (upd H l (.lst ((rs.map (·.1)).map V.str)))
def Vq (CG:Addr):Sp:=λvs H Q _=>∃(a:Addr) (rs:List (Str×List Str)) (r:Str×List Str),vs=[.ref a,.str r.1]/\Qt CG H a rs/\r∈rs/\qN r.1=true/\∀H1 l,Same H H1->H1 l=none->Q (.ref l) (upd H1 l (.lst ((JU rs r).map V.str)))
section
variable {P:Program} {w:World} {K:PySem.W.Frag} {mg:Str->Option Value} {base:Heap}
abbrev nGI:List Str:=["self","rows","row"]
theorem KA:qA nGI ["self","rows"] (qi WI):=⟨rfl,rfl,rfl,by decide+kernel,rfl,by decide+kernel,by decide+kernel⟩
theorem XQ {f fW CG:Addr} {fd fdW:FuncData} (C:Gz K mg CG f fd) (B:JF mg) (G:Qi mg) (T:Qh K mg) (N:yo K mg) (hW:jC K mg "need_rows" Yq ["rows"] fW fdW):qp P w K mg base q5 6 f fd ["self","rows"] (ZZ CG):=by
 have GW:qp P w K mg base q5 5 fW fdW ["rows"] Zv:=xo hW.fn B G T N
 refine C.fn.okJ KA (λvs H Q E h=>?_) (λcdv A outer s H vs Q E hr h=>?_)
 . obtain⟨x,dx,l,ps,rs,rfl,_⟩:=h
   rfl
 . obtain⟨x,dx,l,ps,rs,rfl,g,hx,q⟩:=h
   have hu:=JN hr
   refine⟨_,qh (qV (qP hW GW hr (by rfl) (qb (jv 1) qe)))
     (qh (kF (jv 0) (Zk (N':=["row"]) (ix:=[none]) (te:=Xx (Ur K) (jt 0) (tC (.int 0))) rfl ⟨rfl,rfl,rfl,rfl,rfl⟩ (jW (jv 1)) (λC s2 H2 fp pins=>
       ⟨qF (i:=0) (yp _) rfl (Or.inl rfl),Qc,qW jG (jv 0) qj (λ_ _=>rfl)⟩)) rfl)
     (qh (kF (jv 0) zM rfl)
     (ql (j0 PassesOwn.never rfl (jW (jv 1)) (qF (i:=2) KA.nd rfl (Or.inr rfl))
       (ql (j5 hu (zL (jv 0) rfl) (qW jG (jv 2) qj (λ_ _=>rfl))
         (Zk (N':=["name","row"]) (ix:=[none,some 2]) (tt:=Vh (Xx (Rt K false) (jt 0) (Xx (Ur K) (jt 1) (tC (.int 1))))) rfl ⟨rfl,rfl,rfl,rfl,rfl⟩ (jW (zL (jv 0) rfl)) (λC s2 H2 fp pins=>
           ⟨qF (i:=0) (show (["name","row"]:List Str).Nodup by decide+kernel) rfl (Or.inl rfl),VO (qv Yt (jv 0) (qW jG (jv 1) qj (λ_ _=>rfl)) (by with_unfolding_all rfl)),jv 0⟩)) rfl)))))),?_⟩
   refine⟨_,rfl,l,ps,rs,rfl,g,λH1 s1=>?_⟩
   have g1:=g.mono s1
   have fr1:Fr H x H1:=λb u h _=>s1 _ _ h
   have hx1:=s1 _ _ hx
   refine⟨_,rfl,l,rfl,⟨_,.of g1.at_⟩,λlo hlo=>?_⟩
   have nlx:lo≠x:=λe=>by rw[e,hx1]at hlo;cases hlo
   refine QP (K:=K) (a:=l) (xs:=ps.map V.ref) (λi σ' H'=>∃v,σ'=[v]/\H'=upd H1 lo (.lst (((rs.take i).map (·.1)).map V.str))) ⟨none,rfl,rfl⟩ (λi σ' H' _ ⟨_,_,e⟩=>e▸.of (qo g1.at_ hlo)) ?_ ?_
   . rintro i y σ' H' hy ⟨v,rfl,rfl⟩
     obtain⟨p',q',r,rfl,er,hr',a,b⟩:=g1.rows.item hy
     have hi:=(List.getElem?_eq_some_iff.mp er).1
     refine⟨_,rfl,p',_,0,_,rfl,rfl,.of (qo a hlo),rfl,_,qd,?_,_,rfl,?_⟩
     . rw[List.length_map,List.length_map,List.length_take]
       have:=g.le
       exact qu (by omega)
     . rw[jN,List.take_add_one,er,List.map_append,List.map_append]
       rfl
   rintro σ' H' ⟨v,rfl,rfl⟩
   have e:rs.take (ps.map V.ref).length=rs:=List.take_of_length_le (by rw[List.length_map,g.rows.1];exact Nat.le_refl _)
   rw[e]
   have fr2:Fr H x (upd H1 lo (.lst ((rs.map (·.1)).map V.str))):=fr1.new hlo
   have hlo2:upd H1 lo (.lst ((rs.map (·.1)).map V.str)) lo=some (.lst ((rs.map (·.1)).map V.str)):=qd
   have hx2:upd H1 lo (.lst ((rs.map (·.1)).map V.str)) x=some (.ins CG dx []):=qo hx1 hlo
   generalize upd H1 lo (.lst ((rs.map (·.1)).map V.str))=H2 at fr2 hlo2 hx2
   refine⟨_,rfl,x,CG,dx,[],rfl,hx2,C.cl,C.no,by decide,?_⟩
   rw[Rw]
   intro rd hrd
   have nrx:rd≠x:=λe=>by rw[e,qd]at hrd;cases hrd
   have hrd2:H2 rd=none:=by rw[qg nrx]at hrd;exact hrd
   have nrl:rd≠lo:=λe=>by rw[e,hlo2]at hrd2;cases hrd2
   have hHr:H rd=none:=fr2.fresh hx2 hrd2
   refine⟨_,rfl,x,CG,dx,_,rfl,qo qd hrd,C.cl,C.nr,by show 1 < 1000;decide,?_⟩
   rw[Rv]
   have fr5:Fr H x (upd (upd (upd H2 x (.ins CG dx [("order",.ref lo)])) rd (.dK [])) x (.ins CG dx [("order",.ref lo),("roads",.ref rd)])):=((fr2.at_d).own hHr).at_d
   have g5:=g.fr hx fr5
   refine⟨_,rfl,l,rfl,⟨_,.of g5.at_⟩,?_⟩
   refine QM (K:=K) (a:=l) (xs:=ps.map V.ref) (λi σ' H'=>∃v kvs,σ'=[some (.ref x),some (.ref l),v]/\H' x=some (.ins CG dx [("order",.ref lo),("roads",.ref rd)])/\H' lo=some (.lst ((rs.map (·.1)).map V.str))/\H' rd=some (.dK kvs)/\
     kvs.map (·.1)=((rs.map (·.1)).take i).map Sum.inr/\(∀r∈rs.take i,∃q,js kvs (Sum.inr r.1)=some (.ref q)/\H' q=some (.lst ((JU rs r).map V.str)))/\Fr H x H')
     ⟨none,[],rfl,qd,?_,?_,rfl,λr h=>(nomatch h),fr5⟩ (λi σ' H' _ ⟨_,_,_,_,_,_,_,_,fr⟩=>.of (g.fr hx fr).at_) ?_ ?_
   . rw[qg nlx,qg (Ne.symm nrl),qg nlx]
     exact hlo2
   . rw[qg nrx]
     exact qd
   . rintro i y σ' H' hy ⟨v,kvs,rfl,hx',hlo',hrd',ek,hv,fr⟩
     have g':=g.fr hx fr
     obtain⟨p,qq,r,rfl,er,hr',a,b⟩:=g'.rows.item hy
     have hi:=(List.getElem?_eq_some_iff.mp er).1
     have hle:=g.le
     refine⟨_,rfl,x,CG,dx,_,_,rfl,hx',C.cl,C.no,lkO _ _,lo,rfl,⟨_,.of hlo'⟩,λD hD=>?_⟩
     refine QP (K:=K) (a:=lo) (xs:=(rs.map (·.1)).map V.str) (λj σ'' H''=>∃v0,σ''=[v0,some (.ref p)]/\H''=upd H' D (.lst ((((rs.map (·.1)).take j).filter λz=>Z4 (.str z) (r.2.map V.str)).map V.str))) ⟨none,rfl,rfl⟩
       (λj σ'' H'' _ ⟨_,_,e⟩=>e▸.of (qo hlo' hD)) ?_ ?_
     . rintro j y σ'' H'' hy ⟨v0,rfl,rfl⟩
       rw[List.getElem?_map]at hy
       cases e:(rs.map (·.1))[j]? with
       | none=>rw[e]at hy;cases hy
       | some z=>
         rw[e]at hy
         obtain rfl:=(Option.some.inj hy).symm
         refine⟨_,rfl,_,rfl,p,_,1,_,rfl,rfl,.of (qo a hD),rfl,qq,_,rfl,.inr (.of (qo b hD)),rfl,Js _,_,rfl,?_⟩
         have et:((rs.map (·.1)).take (j+1)).filter (λz=>Z4 (.str z) (r.2.map V.str))=((rs.map (·.1)).take j).filter (λz=>Z4 (.str z) (r.2.map V.str))++if Z4 (.str z) (r.2.map V.str)=true then [z] else []:=by
           rw[List.take_add_one,e,List.filter_append]
           congr 1
           cases ei:Z4 (.str z) (r.2.map V.str)
           . simp [ei]
           . simp [ei]
         rw[et]
         show if Z4 (.str z) (r.2.map V.str)=true then _ else _
         cases ei:Z4 (.str z) (r.2.map V.str) with
         | true=>
           refine Q3 ⟨_,rfl,_,qd,?_,_,rfl,?_⟩
           . rw[List.length_map]
             refine qu (Nat.le_trans (List.length_filter_le _ _) ?_)
             rw[List.length_take,List.length_map]
             omega
           . rw[jN,if_pos rfl,List.map_append]
             rfl
         | false=>
           refine jP ⟨_,rfl,?_⟩
           rw[if_neg Bool.false_ne_true,List.append_nil]
     . rintro σ'' H'' ⟨v0,rfl,rfl⟩
       have ed:((rs.map (·.1)).take ((rs.map (·.1)).map V.str).length).filter (λz=>Z4 (.str z) (r.2.map V.str))=JU rs r:=by
         rw[List.length_map,List.take_of_length_le (Nat.le_refl _)]
         rfl
       rw[ed]
       have nD:∀{c:Addr} {o:HO},H' c=some o->c≠D:=λh e=>by rw[e,hD]at h;cases h
       have en:(rs.map (·.1))[i]?=some r.1:=by rw[List.getElem?_map,er];rfl
       have ez:js kvs (Sum.inr r.1:qQ)=none:=J0 (by rw[ek];exact Zx g.good.nd en)
       have lk:kvs.length < sizeLine:=by
         have:=congrArg List.length ek
         rw[List.length_map,List.length_map,List.length_take,List.length_map]at this
         exact qu (by omega)
       refine⟨_,rfl,x,CG,dx,_,_,rfl,qo hx' hD,C.cl,C.nr,RG _ _,_,rfl,p,_,0,_,rfl,rfl,.of (qo a hD),rfl,rd,_,rfl,JD.k (k:=(Sum.inr r.1:qQ)) (qo hrd' hD) lk,?_⟩
       refine⟨_,jD kvs (Sum.inr r.1) (.ref D),rfl,?_,?_,qd,?_,λr' hr2=>?_,?_⟩
       . rw[qg (Ne.symm nrx)];exact qo hx' hD
       . rw[qg (Ne.symm nrl)];exact qo hlo' hD
       . rw[Y5 _ ez,ek,List.take_add_one,en,List.map_append]
         rfl
       . rw[List.take_add_one,er]at hr2
         rcases List.mem_append.mp hr2 with h | h
         . obtain⟨q1,a1,b1⟩:=hv r' h
           refine⟨q1,?_,?_⟩
           . rw[Xz,if_neg]
             . exact a1
             . intro z
               rw[z,ez]at a1
               cases a1
           . have n1:q1≠rd:=λe=>by rw[e,hrd']at b1;cases b1
             rw[qg n1]
             exact qo b1 hD
         . have er':r'=r:=by simpa using h
           subst er'
           refine⟨D,?_,?_⟩
           . rw[Xz,if_pos rfl]
           . rw[qg (Ne.symm (nD hrd'))]
             exact qd
       . exact(fr.new hD).own hHr
   . rintro σ' H' ⟨v,kvs,rfl,hx',hlo',hrd',ek,hv,fr⟩
     have e:rs.take (ps.map V.ref).length=rs:=List.take_of_length_le (by rw[List.length_map,g.rows.1];exact Nat.le_refl _)
     rw[e]at hv
     exact q H' ⟨dx,lo,rd,kvs,hx',hlo',hrd',hv⟩ fr
theorem Rl:qA ["self"] ["self"] (qi Zd):=⟨rfl,rfl,rfl,by decide+kernel,rfl,by decide+kernel,by decide+kernel⟩
theorem UA {f fI CG:Addr} {fd fdI:FuncData} (F:Qa K "names" "Ground.names" Zd f fd) (C:Gz K mg CG fI fdI) (G:Qi mg):qp P w K mg base q5 1 f fd ["self"] (XF CG):=by
 refine F.okJ Rl (λvs H Q E h=>?_) (λcdv A outer s H vs Q E hr h=>?_)
 . obtain⟨a,rs,rfl,_⟩:=h
   rfl
 . obtain⟨a,rs,rfl,⟨dx,lo,rd,kvs,h1,h2,h3,h4⟩,q⟩:=h
   refine⟨_,ql (qH (qR qT (by rfl) G.lst boot_list (qb (zL (jv 0) rfl) qe))),?_⟩
   exact⟨_,rfl,a,CG,dx,_,_,rfl,h1,C.cl,C.no,lkO _ _,lo,_,rfl,.inl (.of h2),q⟩
abbrev RD:List Str:=["self","name"]
theorem Rm:qA RD RD (qi zq):=⟨rfl,rfl,rfl,by decide+kernel,rfl,by decide+kernel,by decide+kernel⟩
theorem kl {f fI fN CG:Addr} {fd fdI fdN:FuncData} (F:Qa K "roads_from" "Ground.roads_from" zq f fd) (C:Gz K mg CG fI fdI) (B:JF mg) (G:Qi mg) (T:Qh K mg) (hN:jC K mg "is_name" Zc ["thing"] fN fdN):qp P w K mg base q5 2 f fd RD (Vq CG):=by
 have GN:qp P w K mg base q5 1 fN fdN ["thing"] yP:=Y7 hN.fn B T
 refine F.okJ Rm (λvs H Q E h=>?_) (λcdv A outer s H vs Q E hr h=>?_)
 . obtain⟨a,rs,r,rfl,_⟩:=h
   rfl
 . obtain⟨a,rs,r,rfl,gr,hr',hn,q⟩:=h
   have hu:=JN hr
   refine⟨_,qh (jd (Jg (Qg (jS (qP hN GN hr (by rfl) (qb (jv 1) qe)))) (QA (WS (UL hu (jv 1) (zL (jv 0) rfl))))).pt qZ qD)
     (ql (qH (qR qT (by rfl) G.lst boot_list (qb (jm hu (zL (jv 0) rfl) (jv 1) (λ_ _=>rfl)) qe)))),?_⟩
   refine⟨_,rfl,r.1,rfl,hn,λH1 s1=>⟨_,rfl,jP ?_⟩⟩
   obtain⟨dx,lo,rd,kvs,h1,h2,h3,h4⟩:=gr.mono s1
   obtain⟨qq,hv,hq⟩:=h4 r hr'
   have gz:Qj H1 rd (.str r.1) (some (.ref qq)):=by
     have:=Qj.k (k:=(Sum.inr r.1:qQ)) h3
     rw[hv]at this
     exact this
   refine⟨_,rfl,_,rfl,a,CG,dx,_,_,rfl,h1,C.cl,C.nr,RG _ _,rd,_,rfl,gz,_,rfl,jP ?_⟩
   exact⟨_,rfl,a,CG,dx,_,_,rfl,h1,C.cl,C.nr,RG _ _,_,rfl,rd,_,rfl,gz,qq,_,rfl,.inl (.of hq),λl hl=>q H1 l s1 hl⟩
end
end Rh
set_option Elab.async false
set_option linter.all false
set_option maxRecDepth 100000
set_option maxHeartbeats 4000000
namespace Rh
open PySem L2 PyProof.Rows
abbrev jK:=List (Str×List Str)
def Gf (rs:jK) (z:Str):List Str:=match rs.find? (λr=>decide (r.1=z)) with
 | some r=>JU rs r
 | none=>[]
theorem Wa:∀{rs:jK} {r:Str×List Str},(rs.map (·.1)).Nodup->r∈rs->rs.find? (λq=>decide (q.1=r.1))=some r
 | a::rs,r,hn,h=>by
   rw[List.map_cons,List.nodup_cons]at hn
   rcases List.mem_cons.mp h with rfl | h
   . simp [List.find?_cons]
   . have:¬a.1=r.1:=λe=>hn.1 (e▸List.mem_map.mpr ⟨r,h,rfl⟩)
     simp only[List.find?_cons,decide_eq_false this]
     exact Wa hn.2 h
theorem Zl {rs:jK} {r:Str×List Str} (hn:(rs.map (·.1)).Nodup) (h:r∈rs):Gf rs r.1=JU rs r:=by
 unfold Gf
 rw[Wa hn h]
theorem XI {rs:jK} {r:Str×List Str} {y:Str} (h:y∈JU rs r):∃r'∈rs,r'.1=y:=by
 obtain⟨r',h1,h2⟩:=List.mem_map.mp (List.mem_filter.mp h).1
 exact⟨r',h1,h2⟩
theorem Yy:∀{more kvs:List (qQ×V)},(more.map (·.1)).Nodup->(∀k∈more.map (·.1),¬k∈kvs.map (·.1))->jw kvs more=kvs++more
 | [],kvs,_,_=>(List.append_nil _).symm
 | p::more,kvs,hn,h=>by
   rw[List.map_cons,List.nodup_cons]at hn
   have e:js kvs p.1=none:=J0 (h p.1 (by simp))
   show jw (jD kvs p.1 p.2) more=_
   rw[XJ p.2 e,Yy hn.2]
   . rw[List.append_assoc]
     rfl
   . intro k hk m
     rw[List.map_append]at m
     rcases List.mem_append.mp m with m | m
     . exact h k (by rw[List.map_cons];exact List.mem_cons_of_mem _ hk) m
     . have:k=p.1:=by simpa using m
       subst this
       exact hn.1 hk
structure u9 (K:PySem.W.Frag) (C:Addr) (m qual:Str) (st:Stmt) (ps:List Str) (f:Addr) (fd:FuncData):Prop where
 fn:Qa K m qual st f fd
 me:U8 K C m f
 bi:jE K fd ps []
theorem K6 {X:Cx} {C f:Addr} {fd:FuncData} {m qual:Str} {st:Stmt} {ps:List Str} {k:Nat} {sp:Sp} {o:Expr} {ta:TE} {apos pos:Pos} {pl:Sem Bool} (h:u9 X.K C m qual st ps f fd) (c:Vc X.K C) (G:qp X.prog X.w X.K X.mg X.base q5 k f fd ps sp) (hr:qY k X.A) (he:JE X o ta)
   (ht:eval (.Call (.Attribute o m apos) [] [] pos) X.env=(do
     let ov <-eval o X.env
     standAt apos.atName
     let (f,first) <-holding [ov] (getMethod ov m pl)
     callWith pos f first (backTo pos (starEach [] X.env)) (backToKw pos (keywordEach [] X.env))):=by rfl):
   JE X (.Call (.Attribute o m apos) [] [] pos) (Ym C m sp [] E0 ta Qk):=kK he c h.me G hr h.bi .nil Zg ht
theorem K5 {X:Cx} {C f:Addr} {fd:FuncData} {m qual:Str} {st:Stmt} {ps:List Str} {k:Nat} {sp:Sp} {o e:Expr} {es:List Expr} {ta:TE} {t:TA} {apos pos:Pos} {pl:Sem Bool} (h:u9 X.K C m qual st ps f fd) (c:Vc X.K C) (G:qp X.prog X.w X.K X.mg X.base q5 k f fd ps sp) (hr:qY k X.A) (he:JE X o ta) (ha:JA X (e::es) t)
   (hst:starEach (e::es) X.env=(false,eval e X.env)::starEach es X.env:=by rfl) (hpl:(backTo pos (starEach es X.env)).any (·.1)=false:=by rfl)
   (ht:eval (.Call (.Attribute o m apos) (e::es) [] pos) X.env=(do
     let ov <-eval o X.env
     standAt apos.atName
     let (f,first) <-holding [ov] (getMethod ov m pl)
     callWith pos f first (backTo pos (starEach (e::es) X.env)) (backToKw pos (keywordEach [] X.env))):=by rfl):
   JE X (.Call (.Attribute o m apos) (e::es) [] pos) (Ym C m sp [] E0 ta t):=xH he c h.me G hr h.bi .nil Zg ha hst hpl ht
structure GM (K:PySem.W.Frag) (mg:Str->Option Value) (CG:Addr):Prop where
 cls:∃f fd,Gz K mg CG f fd
 nm:∃f fd,u9 K CG "names" "Ground.names" Zd ["self"] f fd
 fr:∃f fd,u9 K CG "roads_from" "Ground.roads_from" zq ["self","name"] f fd
 isn:∃f fd,jC K mg "is_name" Zc ["thing"] f fd
theorem Qt.ins {CG:Addr} {H:Hp} {a:Addr} {rs:jK} (h:Qt CG H a rs):∃dx fs,H a=some (.ins CG dx fs)/\fs.lookup (Str.ofString "names")=none/\fs.lookup (Str.ofString "roads_from")=none:=by
 obtain⟨dx,lo,rd,kvs,h1,_⟩:=h
 refine⟨dx,_,h1,?_,?_⟩
 . have e1:((Str.ofString "names")==(Str.ofString "order"))=false:=by decide+kernel
   have e2:((Str.ofString "names")==(Str.ofString "roads"))=false:=by decide+kernel
   simp only[List.lookup]
   rw[e1,e2]
 . have e1:((Str.ofString "roads_from")==(Str.ofString "order"))=false:=by decide+kernel
   have e2:((Str.ofString "roads_from")==(Str.ofString "roads"))=false:=by decide+kernel
   simp only[List.lookup]
   rw[e1,e2]
theorem ZY {zs:List Str} {i:Nat} {y:V} (h:(zs.map V.str)[i]?=some y):∃z,zs[i]?=some z/\z∈zs/\y=.str z:=by
 rw[List.getElem?_map]at h
 cases e:zs[i]? with
 | none=>rw[e]at h;cases h
 | some z=>rw[e]at h;exact⟨z,rfl,List.mem_of_getElem? e,(Option.some.inj h).symm⟩
theorem WJ {rs:jK} (r:Str×List Str):(JU rs r).length<=rs.length:=by
 have:=List.length_filter_le (λz=>Z4 (.str z) (r.2.map V.str)) (rs.map (·.1))
 rwa [List.length_map]at this
theorem jk {c:Bool} {A B:Prop} (hc:c=false) (h:B):if c=true then A else B:=by
 rw[hc]
 exact jP h
theorem jr {c:Bool} {A B:Prop} (hc:c=true) (h:A):if c=true then A else B:=by
 rw[if_pos hc]
 exact h
abbrev Qv:Stmt:=Z5 (top 7) 0
structure x4 (K:PySem.W.Frag) (mg:Str->Option Value) (D:Addr) (x qual:Str) (st:Stmt) (fld:Str) (C f:Addr) (fd:FuncData):Prop where
 cls:ZW K C (.ref D::j7)
 mkr:Gw K C f (.ref D::j7)
 ns:mg x=some (.ref C)
 na:j9 K C fld
 fn:Qa K "__init__" qual st f fd
 bi:jE K fd ["self",fld] []
theorem Rx (D:Addr):WK (.ref D::j7):=rfl
theorem UH (D:Addr):(Value.ref D::j7).contains (.type "BaseException")=true:=rfl
theorem x4.rcls {K:PySem.W.Frag} {mg:Str->Option Value} {D C f:Addr} {x qual fld:Str} {st:Stmt} {fd:FuncData} (h:x4 K mg D x qual st fld C f fd):U5 K C:=⟨f,_,h.mkr,UH D⟩
def spE (C:Addr) (fld:Str):Sp:=λvs H Q _=>∃e y,vs=[.ref e,y]/\H e=some (ZF e C)/\∀dx,H dx=none->Q .non (upd (upd H e (QN e C dx)) dx (.xd [(fld,y)]))
theorem VM {H:Hp} {e dx C:Addr} {fs:List (Str×V)} (h1:H e=none) (h2:upd H e (ZF e C) dx=none):
   Same H (upd (upd (upd H e (ZF e C)) e (QN e C dx)) dx (.xd fs))/\upd (upd (upd H e (ZF e C)) e (QN e C dx)) dx (.xd fs) e=some (QN e C dx)/\upd (upd (upd H e (ZF e C)) e (QN e C dx)) dx (.xd fs) dx=some (.xd fs):=by
 have ne:e≠dx:=λz=>by rw[<-z,qd]at h2;cases h2
 refine⟨λb o hb=>?_,?_,qd⟩
 . have b1:b≠e:=qm hb h1
   have b2:b≠dx:=λz=>by rw[<-z,qg b1,hb]at h2;cases h2
   rw[qg b2,qg b1,qg b1];exact hb
 . rw[qg ne];exact qd
def JB (H H':Hp):Prop:=∀b o,H b=some o->(∀φ,o≠.ext φ)->H' b=some o
theorem _root_.L2.Same.keep {H H':Hp} (s:Same H H'):JB H H':=λb o h _=>s b o h
theorem JB.trans {H H' H'':Hp} (a:JB H H') (b:JB H' H''):JB H H'':=λc o h n=>b c o (a c o h n) n
theorem _root_.L2.SqT.keep {K:PySem.W.Frag} {H H':Hp} {p:Addr} {xs:List V} (h:SqT K H p xs) (s:JB H H'):SqT K H' p xs:=by
 rcases h with (h | ⟨o,h⟩) | h
 . exact .inl (.inl (s _ _ h (λ_ z=>nomatch z)))
 . exact .inl (.inr ⟨o,s _ _ h (λ_ z=>nomatch z)⟩)
 . exact .inr h
theorem _root_.L2.SqL.keep {K:PySem.W.Frag} {H H':Hp} {p:Addr} {xs:List V} (h:SqL K H p xs) (s:JB H H'):SqL K H' p xs:=by
 rcases h with (h | ⟨o,h⟩) | h
 . exact .inl (.inl (s _ _ h (λ_ z=>nomatch z)))
 . exact .inl (.inr ⟨o,s _ _ h (λ_ z=>nomatch z)⟩)
 . exact .inr h
theorem TyOf.keep {K:PySem.W.Frag} {H H':Hp} {v:V} {t:Value} (h:TyOf K H v t) (s:JB H H'):TyOf K H' v t:=by
 cases h with
 | non=>exact .non
 | bl x=>exact .bl x
 | int i=>exact .int i
 | str x=>exact .str x
 | flt x=>exact .flt x
 | lst e=>exact .lst (s _ _ e (λ_ z=>nomatch z))
 | frz e=>exact .frz (s _ _ e (λ_ z=>nomatch z))
 | tup e=>exact .tup (s _ _ e (λ_ z=>nomatch z))
 | dK e=>exact .dK (s _ _ e (λ_ z=>nomatch z))
 | dT e=>exact .dT (s _ _ e (λ_ z=>nomatch z))
 | ins e a b c d f=>exact .ins (s _ _ e (λ_ z=>nomatch z)) a b c d f
mutual
theorem jX {K:PySem.W.Frag} {H H':Hp} (s:JB H H'):∀{x:V} {d:PyData},DV K H x d->DV K H' x d
 | _,_,.non=>.non
 | _,_,.bl b=>.bl b
 | _,_,.int i=>.int i
 | _,_,.str x=>.str x
 | _,_,.lst h hs=>.lst (h.keep s) (dvs_keep s hs)
 | _,_,.tup h hs=>.tup (h.keep s) (dvs_keep s hs)
theorem dvs_keep {K:PySem.W.Frag} {H H':Hp} (s:JB H H'):∀{x:List V} {d:List PyData},DVs K H x d->DVs K H' x d
 | _,_,.nil=>.nil
 | _,_,.cons h hs=>.cons (jX s h) (dvs_keep s hs)
end
structure uU (K:PySem.W.Frag) (mg:Str->Option Value) (D CP CH:Addr):Prop where
 nD:mg "HeapError"=some (.ref D)
 nH:mg "NoHeap"=some (.ref CH)
 k1:PySem.W.kitOne K (.ref CP) (.ref D)=some true
 k2:PySem.W.kitOne K (.ref CP) (.ref CH)=some false
 spc:PySem.W.specialIn K (.builtin "object.__class__") "__get__"=some (some (.builtin "getset_descriptor.__get__"))
 tks:PySem.W.takesIn K (.builtin "object.__class__")=some true
 rep:mg "repr"=none
theorem K8 {X:Cx} {x:Str} {st:Stmt} {ps:List Str} {f:Addr} {fd:FuncData} {k:Nat} {sp:Sp} {E:L2.St->XK} {e:Expr} {es:List Expr} {t:TA} {p pos:Pos} (h:jC X.K X.mg x st ps f fd) (G:qp X.prog X.w X.K X.mg X.base (Jj X.prog X.w) k f fd ps sp) (hr:qY k X.A) (hx:QY (Jj X.prog X.w) X E)
   (hg:Gl X x) (ha:JA X (e::es) t) (hdb:(x==("__debug__":Str))=false:=by decide) (he:starEach (e::es) X.env=(false,eval e X.env)::starEach es X.env:=by rfl) (hpl:(backTo pos (starEach es X.env)).any (·.1)=false:=by rfl):
   JE X (.Call (.Name x p) (e::es) [] pos) (Wx sp [] E t):=.of (vT G hr hg h.ns h.fn.kp h.bi .nil hx ha.to hdb he hpl)
theorem yC {kvs:List (qQ×V)}:∀{i:Nat} {k:qQ} {v:V},(kvs.map (·.1)).Nodup->kvs[i]?=some (k,v)->js kvs k=some v:=by
 induction kvs with
 | nil=>intro i k v _ e;simp at e
 | cons p r ih=>
   intro i k v hn e
   rw[List.map_cons,List.nodup_cons]at hn
   cases i with
   | zero=>
     rw[List.getElem?_cons_zero]at e
     obtain rfl:=Option.some.inj e
     exact qK rfl
   | succ i=>
     rw[List.getElem?_cons_succ]at e
     have:¬p.1=k:=λz=>hn.1 (z▸List.mem_map.mpr ⟨_,List.mem_of_getElem? e,rfl⟩)
     rw[qG this]
     exact ih hn.2 e
theorem VA {H:Hp}:∀(ps:List Addr) (rs:jK),jB H ps rs->∃qs:List Addr,qs.length=rs.length/\∀(i:Nat) (p q:Addr) (r:Str×List Str),ps[i]?=some p->rs[i]?=some r->qs[i]?=some q->H p=some (.tup [.str r.1,.ref q])/\H q=some (.tup (r.2.map V.str))
 | [],[],_=>⟨[],rfl,λi p q r e=>by simp at e⟩
 | [],_::_,h=>by cases h.1
 | _::_,[],h=>by cases h.1
 | p::ps,r::rs,h=>by
   obtain⟨qs,l,k⟩:=VA ps rs ⟨Nat.succ.inj h.1,λi a b e1 e2=>h.2 (i+1) a b (by simpa using e1) (by simpa using e2)⟩
   obtain⟨q,a,b⟩:=h.2 0 p r rfl rfl
   refine⟨q::qs,by simp [l],λi p' q' r' e1 e2 e3=>?_⟩
   cases i with
   | zero=>cases e1;cases e2;cases e3;exact⟨a,b⟩
   | succ i=>exact k i p' q' r' (by simpa using e1) (by simpa using e2) (by simpa using e3)
def Zj (rs:jK) (qs:List Addr):List (qQ×V):=List.zipWith (λr q=>((Sum.inr r.1:qQ),V.ref q)) rs qs
theorem ZA:∀{rs:jK} {qs:List Addr},qs.length=rs.length->(Zj rs qs).map (·.1)=(rs.map (·.1)).map Sum.inr
 | [],[],_=>rfl
 | [],_::_,h=>by cases h
 | _::_,[],h=>by cases h
 | r::rs,q::qs,h=>by
   show Sum.inr r.1::(Zj rs qs).map (·.1)=_
   rw[ZA (Nat.succ.inj h)]
   rfl
theorem zE {rs:jK} {qs:List Addr} (h:qs.length=rs.length):(Zj rs qs).length=rs.length:=by
 have:=congrArg List.length (ZA h)
 simpa using this
theorem VN {rs:jK} {qs:List Addr} (h:qs.length=rs.length) {i:Nat} {r:Str×List Str} (e:rs[i]?=some r):∃q,qs[i]?=some q/\(Zj rs qs)[i]?=some (Sum.inr r.1,.ref q):=by
 have hi:i < qs.length:=by rw[h];exact(List.getElem?_eq_some_iff.mp e).1
 refine⟨qs[i],List.getElem?_eq_getElem hi,?_⟩
 unfold Zj
 rw[List.getElem?_zipWith,e,List.getElem?_eq_getElem hi]
theorem kB {rs:jK} {qs:List Addr} (h:qs.length=rs.length) {i:Nat} {kv:qQ×V} (e:(Zj rs qs)[i]?=some kv):∃r q,rs[i]?=some r/\qs[i]?=some q/\kv=(Sum.inr r.1,.ref q):=by
 have hi:i < rs.length:=by rw[<-zE h];exact(List.getElem?_eq_some_iff.mp e).1
 obtain⟨q,e1,e2⟩:=VN h (List.getElem?_eq_getElem hi)
 rw[e2]at e
 exact⟨_,q,List.getElem?_eq_getElem hi,e1,(Option.some.inj e).symm⟩
theorem jZ {z:Str} (h:qN z=true):(∀c∈z.cps.toList,c<=122)/\z.length<=8/\1<=z.length:=by
 unfold qN at h
 simp only[Bool.and_eq_true,decide_eq_true_eq]at h
 refine⟨λc hc=>?_,h.1.2,h.1.1⟩
 have:=List.all_eq_true.mp h.2 c hc
 unfold jF at this
 simp only[Bool.and_eq_true,decide_eq_true_eq]at this
 exact this.2
theorem Z2 {z:Str} (h:qN z=true):PyData.strOk z=true:=by
 unfold PyData.strOk
 rw[Array.all_eq_true_iff_forall_mem]
 intro c hc
 have:=(jZ h).1 c (by simpa using hc)
 exact decide_eq_true (by omega)
def dL (zs:List Str):PyData:=.list (zs.map PyData.str)
theorem Wr {K:PySem.W.Frag} {H:Hp}:∀zs:List Str,DVs K H (zs.map V.str) (zs.map PyData.str)
 | []=>.nil
 | z::zs=>.cons (.str z) (Wr zs)
theorem uW {K:PySem.W.Frag} {H:Hp} {p:Addr} {zs:List Str} (h:H p=some (.lst (zs.map V.str))):DV K H (.ref p) (dL zs):=.lst (.of h) (Wr zs)
theorem Gn:∀{zs:List Str},(∀z∈zs,qN z=true)->PyData.canLayAll0 (zs.map PyData.str)=true
 | [],_=>rfl
 | z::zs,h=>by
   rw[List.map_cons,PyData.canLayAll0,Gn λy hy=>h y (List.mem_cons_of_mem _ hy),Bool.and_true]
   exact Z2 (h z List.mem_cons_self)
theorem Gh:∀zs:List Str,PyData.depthAll (zs.map PyData.str)=0
 | []=>rfl
 | z::zs=>by
   rw[List.map_cons]
   simp only[PyData.depthAll,PyData.depth,Gh zs]
   rfl
theorem shL {zs:List Str} (h:∀z∈zs,qN z=true):PySem.SeqAt.shaped (dL zs)=true:=by
 unfold PySem.SeqAt.shaped
 rw[Bool.and_eq_true]
 refine⟨Gn h,decide_eq_true ?_⟩
 unfold dL
 simp only[PyData.depth,Gh zs]
 decide
theorem Y4 {z:Str} (h:∀c∈z.cps.toList,c<=122):(reprText z).length<=10*z.length+2:=StrLaws.reprText_len z λc hc=>Nat.lt_of_le_of_lt (h c hc) (by decide)
end Rh
set_option Elab.async false
set_option linter.all false
set_option maxRecDepth 100000
set_option maxHeartbeats 4000000
namespace Rh
open PySem L2 PyProof.Rows
abbrev YY:Stmt:=top 11
abbrev Jb:Stmt:=top 24
abbrev JQ:Stmt:=top 27
abbrev QI:Stmt:=top 28
abbrev Yp:Stmt:=top 29
abbrev Z1:Stmt:=top 30
abbrev Vt:Stmt:=top 31
abbrev JR:Stmt:=top 32
def KZ (rs:jK) (j:Nat) (z:Str):List (Nat×Str):=(Gf rs z).map λe=>(j,e)
def jV (rs:jK) (hs:List Str) (n:Nat):List (Nat×Str):=(List.range n).flatMap λj=>KZ rs j (zc hs j)
theorem zC (rs:jK) (hs:List Str) (n:Nat):jV rs hs (n+1)=jV rs hs n++KZ rs n (zc hs n):=by
 unfold jV
 rw[List.range_succ,List.flatMap_append]
 simp
def kr (m:Nat×Str):List V:=[.int (m.1:Int),.str m.2]
def jf (H:Hp) (ps:List Addr) (ms:List (Nat×Str)):Prop:=ps.length=ms.length/\∀(i:Nat) (p:Addr) (m:Nat×Str),ps[i]?=some p->ms[i]?=some m->H p=some (.tup (kr m))
theorem jf.mono {H H':Hp} {ps:List Addr} {ms:List (Nat×Str)} (h:jf H ps ms) (s:Same H H'):jf H' ps ms:=⟨h.1,λi p m e1 e2=>s _ _ (h.2 i p m e1 e2)⟩
theorem jf.nil (H:Hp):jf H [] []:=⟨rfl,λi p m e=>by simp at e⟩
theorem jf.app {H:Hp} {ps qs:List Addr} {ms ns:List (Nat×Str)} (h:jf H ps ms) (k:jf H qs ns):jf H (ps++qs) (ms++ns):=by
 refine⟨by rw[List.length_append,List.length_append,h.1,k.1],λi p m e1 e2=>?_⟩
 by_cases hi:i < ps.length
 . rw[List.getElem?_append_left hi]at e1
   rw[List.getElem?_append_left (by rw[<-h.1];exact hi)]at e2
   exact h.2 i p m e1 e2
 . have hi':ps.length<=i:=Nat.le_of_not_lt hi
   rw[List.getElem?_append_right hi']at e1
   rw[List.getElem?_append_right (by rw[<-h.1];exact hi'),<-h.1]at e2
   exact k.2 _ p m e1 e2
theorem jf.one {H:Hp} {p:Addr} {m:Nat×Str} (h:H p=some (.tup (kr m))):jf H [p] [m]:=by
 refine⟨rfl,λi p' m' e1 e2=>?_⟩
 cases i with
 | zero=>cases e1;cases e2;exact h
 | succ i=>simp at e1
structure jH (H:Hp) (h:Addr) (rs:jK) (hs:List Str):Prop where
 at_:H h=some (.lst (hs.map V.str))
 le:hs.length<=8
 in_:∀z∈hs,∃r∈rs,r.1=z
theorem jH.mono {H H':Hp} {h:Addr} {rs:jK} {hs:List Str} (x:jH H h rs hs) (s:Same H H'):jH H' h rs hs:=⟨s _ _ x.at_,x.le,x.in_⟩
theorem xO {rs:jK} (g:qI rs) {r:Str×List Str} (hr:r∈rs):(Gf rs r.1).length<=rs.length:=by
 rw[Zl g.nd hr]
 exact WJ r
theorem Jp {rs:jK} {hs:List Str} (g:qI rs) (le:rs.length<=14) (hi:∀z∈hs,∃r∈rs,r.1=z):∀n,n<=hs.length->(jV rs hs n).length<=n*14
 | 0,_=>Nat.le_refl _
 | n+1,h=>by
   rw[zC,List.length_append]
   have h1:=Jp g le hi n (Nat.le_of_lt h)
   obtain⟨r,hr,e⟩:=hi _ (ZX h)
   have h2:=xO g hr
   rw[e]at h2
   unfold KZ
   rw[List.length_map]
   omega
theorem YD {rs:jK} (g:qI rs) {z:Str} (h:∃r∈rs,r.1=z):qN z=true:=by
 obtain⟨r,hr,rfl⟩:=h
 exact g.nm r hr
def Vl (CG:Addr):Sp:=λvs H Q _=>∃(g:Addr) (rs:jK) (z:Str),vs=[.ref g,.str z]/\Qt CG H g rs/\(∃r∈rs,r.1=z)/\∀H',Same H H'->Q .non H'
def Jk (CG:Addr):Sp:=λvs H Q _=>∃(g h:Addr) (rs:jK) (hs:List Str),vs=[.ref g,.ref h]/\Qt CG H g rs/\jH H h rs hs/\∀H',Same H H'->Q .non H'
def Vn (CG:Addr):Sp:=λvs H Q _=>∃(g h:Addr) (rs:jK) (hs:List Str),vs=[.ref g,.ref h]/\Qt CG H g rs/\qI rs/\rs.length<=14/\jH H h rs hs/\
 ∀H' l ps,Same H H'->H l=none->H' l=some (.lst (ps.map V.ref))->jf H' ps (jV rs hs hs.length)->Q (.ref l) H'
def YV (CG:Addr):Sp:=λvs H Q _=>∃(g h:Addr) (rs:jK) (hs:List Str),vs=[.ref g,.ref h]/\Qt CG H g rs/\qI rs/\rs.length<=14/\jH H h rs hs/\
 ∀H',Same H H'->Q (.bl (jV rs hs hs.length).isEmpty) H'
section
variable {P:Program} {w:World} {K:PySem.W.Frag} {mg:Str->Option Value} {base:Heap}
abbrev xB:List Str:=["ground","thing"]
theorem Rg:qA xB xB (qi Jb):=⟨rfl,rfl,rfl,by decide+kernel,rfl,by decide+kernel,by decide+kernel⟩
theorem kb {f CG:Addr} {fd:FuncData} (F:Qa K "need_place" "need_place" Jb f fd) (G:Qi mg) (M:GM K mg CG):qp P w K mg base q5 2 f fd xB (Vl CG):=by
 obtain⟨fC,fdC,C⟩:=M.cls
 obtain⟨fN,fdN,hN⟩:=M.nm
 have GN:qp P w K mg base q5 1 fN fdN ["self"] (XF CG):=UA hN.fn C G
 refine F.okJ Rg (λvs H Q E h=>?_) (λcdv A outer s H vs Q E hr h=>?_)
 . obtain⟨g,rs,z,rfl,_⟩:=h
   rfl
 . obtain⟨g,rs,z,rfl,gr,hz,q⟩:=h
   refine⟨_,ql (jd (qv Zh (jv 1) (K6 hN C.cl GN hr (jv 0)) (by with_unfolding_all rfl)) qZ qD),?_⟩
   obtain⟨dx,fs,hg,l1,l2⟩:=gr.ins
   refine⟨_,rfl,_,rfl,g,dx,fs,rfl,hg,l1,g,rs,rfl,gr,λl hl=>⟨l,_,rfl,.inl (.of qd),rfl,Js _,_,rfl,?_⟩⟩
   have e:Z4 (.str z) ((rs.map (·.1)).map V.str)=true:=VT (by obtain⟨r,hr',rfl⟩:=hz;exact List.mem_map.mpr ⟨r,hr',rfl⟩)
   show if (!Z4 (.str z) ((rs.map (·.1)).map V.str))=true then _ else _
   rw[e]
   exact jP (q _ (qk hl))
abbrev nNH:List Str:=["ground","heap","thing"]
theorem Ky:qA nNH ["ground","heap"] (qi JQ):=⟨rfl,rfl,rfl,by decide+kernel,rfl,by decide+kernel,by decide+kernel⟩
theorem Jd {f fP CG:Addr} {fd fdP:FuncData} (F:Qa K "need_heap" "need_heap" JQ f fd) (B:JF mg) (G:Qi mg) (T:Qh K mg) (M:GM K mg CG) (hP:jC K mg "need_place" Jb xB fP fdP) (mt:∃t,mg "MOST_TOKENS"=some (.int 8 t)):qp P w K mg base q5 3 f fd ["ground","heap"] (Jk CG):=by
 have GP:qp P w K mg base q5 2 fP fdP xB (Vl CG):=kb hP.fn G M
 obtain⟨tk,hmt⟩:=mt
 refine F.okJ Ky (λvs H Q E h=>?_) (λcdv A outer s H vs Q E hr h=>?_)
 . obtain⟨g,h',rs,hs,rfl,_⟩:=h
   rfl
 . obtain⟨g,h',rs,hs,rfl,gr,hh,q⟩:=h
   refine⟨_,qh (jd (Qg (jS (qw jz (by rfl) T.isi boot_isinstance (qb (jv 1) (qb (Qx (v:=.ty "list") (by rfl) G.lst boot_list rfl) qe))))) qZ qD)
     (qh (jd (qv XO (qw qz (by rfl) B.len boot_len (qb (jv 1) qe)) (Jr (v:=.int 8) (by rfl) hmt ⟨_,rfl⟩) (qy _)) qZ qD)
     (ql (j0 PassesOwn.never rfl (jW (jv 1)) (qF (i:=2) Ky.nd rfl (Or.inl rfl)) (ql (qV (qP hP GP hr (by rfl) (qb (jv 0) (qb (jv 2) qe)))))))),?_⟩
   refine⟨_,rfl,_,_,_,_,rfl,rfl,.lst hh.at_,T.kll,_,rfl,jP ?_⟩
   refine⟨_,rfl,h',_,rfl,.inl (.of hh.at_),_,_,rfl,rfl,_,rfl,jk (decide_eq_false ?_) ?_⟩
   . have:=hh.le
     rw[List.length_map]
     omega
   refine⟨_,rfl,h',rfl,⟨_,.of hh.at_⟩,?_⟩
   refine QM (K:=K) (a:=h') (xs:=hs.map V.str) (λi σ' G=>∃v,σ'=[some (.ref g),some (.ref h'),v]/\Same H G) ⟨_,rfl,Same.refl H⟩ (λi σ' G _ ⟨_,_,s⟩=>.of (s _ _ hh.at_)) ?_ ?_
   . rintro i y σ' G hy ⟨v,rfl,sG⟩
     obtain⟨z,ez,hz,rfl⟩:=ZY hy
     exact⟨_,rfl,_,rfl,g,rs,z,rfl,gr.mono sG,hh.in_ z hz,λH' s'=>⟨_,rfl,sG.trans s'⟩⟩
   . rintro σ' G ⟨v,rfl,sG⟩
     exact q G sG
abbrev nMo:List Str:=["ground","heap","moves","token","place"]
theorem yT:qA nMo ["ground","heap"] (qi QI):=⟨rfl,rfl,rfl,by decide+kernel,rfl,by decide+kernel,by decide+kernel⟩
theorem ke {f fH fP CG:Addr} {fd fdH fdP:FuncData} (F:Qa K "moves_of" "moves_of" QI f fd) (B:JF mg) (G:Qi mg) (T:Qh K mg) (M:GM K mg CG) (hP:jC K mg "need_place" Jb xB fP fdP) (mt:∃t,mg "MOST_TOKENS"=some (.int 8 t))
   (hH:jC K mg "need_heap" JQ ["ground","heap"] fH fdH):qp P w K mg base q5 4 f fd ["ground","heap"] (Vn CG):=by
 obtain⟨fC,fdC,C⟩:=M.cls
 obtain⟨fR,fdR,hR⟩:=M.fr
 obtain⟨fN,fdN,hN⟩:=M.isn
 have GH:qp P w K mg base q5 3 fH fdH ["ground","heap"] (Jk CG):=Jd hH.fn B G T M hP mt
 have GR:qp P w K mg base q5 2 fR fdR ["self","name"] (Vq CG):=kl hR.fn C B G T hN
 refine F.okJ yT (λvs H Q E h=>?_) (λcdv A outer s H vs Q E hr h=>?_)
 . obtain⟨g,h',rs,hs,rfl,_⟩:=h
   rfl
 . obtain⟨g,h',rs,hs,rfl,gr,gd,le,hh,q⟩:=h
   have r2:qY 2 (A.deeper (envOfC "moves_of" (qi QI) s.heap.objs.size f cdv)):=hr.mono (by decide)
   refine⟨_,qh (qV (qP hH GH hr (by rfl) (qb (jv 0) (qb (jv 1) qe))))
     (qh (qt (i:=2) yT.nd rfl (Or.inl rfl) (qO qe))
     (qh (j0 PassesOwn.never rfl (Xi (by rfl) T.enu (qb (jv 1) qe)) (JV rfl (jq (qF (i:=3) yT.nd rfl (Or.inr rfl)) (jq (qF (i:=4) yT.nd rfl (Or.inl rfl)) QT)))
       (ql (qV (Q0 PySem.F.plainAttrs_list PySem.F.slot_list_extend PySem.F.type_list_extend UF (jv 2) (qb
         (Zk (N':=["end","token"]) (ix:=[none,some 3]) (te:=yF (jc (jt 1) (jc (jt 0) Qk))) rfl ⟨rfl,rfl,rfl,rfl,rfl⟩ (jW (K5 hR C.cl GR r2 (jv 0) (qb (jv 4) qe))) (λC s2 H2 fp pins=>
           ⟨qF (i:=0) (show (["end","token"]:List Str).Nodup by decide+kernel) rfl (Or.inl rfl),Qc,jl (qb (jv 1) (qb (jv 0) qe))⟩)) qe)))))
     (ql (qH (jv 2))))),?_⟩
   refine⟨_,rfl,_,rfl,g,h',rs,hs,rfl,gr,hh,λH1 s1=>?_⟩
   refine⟨by show 0<=sizeLine;decide,λl hl=>?_⟩
   have hl0:H l=none:=by
     cases z:H l with
     | none=>rfl
     | some u=>rw[s1 _ _ z]at hl;cases hl
   have s2:Same H (upd H1 l (.lst [])):=s1.trans (qk hl)
   have hl2:upd H1 l (.lst []) l=some (.lst []):=qd
   generalize upd H1 l (.lst [])=H2 at s2 hl2
   refine⟨_,rfl,h',rfl,⟨_,.of (s2 _ _ hh.at_)⟩,?_⟩
   refine zQ (K:=K) (a:=h') (xs:=hs.map V.str) (λi σ' G=>∃v3 v4 ps,σ'=[some (.ref g),some (.ref h'),some (.ref l),v3,v4]/\Same H G/\G l=some (.lst (ps.map V.ref))/\jf G ps (jV rs hs i))
     ⟨_,_,[],rfl,s2,hl2,jf.nil _⟩ (λi σ' G _ ⟨_,_,_,_,s,_⟩=>.of (s _ _ hh.at_)) ?_ ?_
   . rintro i y σ' G p hy hp ⟨v3,v4,ps,rfl,sG,hlG,mv⟩
     obtain⟨z,ez,hz,rfl⟩:=ZY hy
     have hi:=(List.getElem?_eq_some_iff.mp ez).1
     have ezz:zc hs i=z:=by
       have:=JZ hi
       rw[ez]at this
       exact(Option.some.inj this).symm
     refine⟨p,_,rfl,.of qd,rfl,_,_,rfl,_,_,rfl,rfl,?_⟩
     have sP:Same G (upd G p (.tup [.int (i:Nat),.str z])):=qk hp
     have sGP:=sG.trans sP
     have hlP:=sP _ _ hlG
     have mvP:=mv.mono sP
     generalize upd G p (.tup [.int (i:Nat),.str z])=G1 at sP sGP hlP mvP
     obtain⟨r,hr',er⟩:=hh.in_ z hz
     obtain⟨dx,fs,hg,l1,l2⟩:=(gr.mono sGP).ins
     refine⟨_,rfl,.inl ⟨rfl,_,.of hlP⟩,_,rfl,g,dx,fs,rfl,hg,l2,_,rfl,g,rs,r,by rw[er];rfl,gr.mono sGP,hr',gd.nm r hr',λG2 e s2' he=>?_⟩
     have sE:Same G1 (upd G2 e (.lst ((JU rs r).map V.str))):=s2'.trans (qk he)
     have hE:upd G2 e (.lst ((JU rs r).map V.str)) e=some (.lst ((JU rs r).map V.str)):=qd
     generalize upd G2 e (.lst ((JU rs r).map V.str))=G3 at sE hE
     refine⟨e,rfl,⟨_,.of hE⟩,λD hD=>?_⟩
     refine QP (K:=K) (a:=e) (xs:=(JU rs r).map V.str) (λj σ'' G4=>∃v0 qs,σ''=[v0,some (.int (i:Nat))]/\Same G3 G4/\G4 D=some (.lst (qs.map V.ref))/\jf G4 qs (((JU rs r).take j).map λy=>(i,y)))
       ⟨none,[],rfl,qk hD,qd,jf.nil _⟩ (λj σ'' G4 _ ⟨_,_,_,s,_⟩=>.of (s _ _ hE)) ?_ ?_
     . rintro j y σ'' G4 hy ⟨v0,qs,rfl,s4,hD4,mq⟩
       obtain⟨x,ex,hx,rfl⟩:=ZY hy
       have hj:=(List.getElem?_eq_some_iff.mp ex).1
       refine⟨_,rfl,_,rfl,by show 2<=sizeLine;decide,λt ht=>⟨_,qo hD4 ht,?_,_,qs++[t],rfl,?_,?_,?_⟩⟩
       . rw[List.length_map,mq.1,List.length_map,List.length_take]
         have:=WJ (rs:=rs) r
         exact qu (by omega)
       . exact Same.upd (s4.trans (qk ht)) hD
       . rw[qd,List.map_append]
         rfl
       . have nt:t≠D:=λz=>by rw[z,hD4]at ht;cases ht
         have e1:jf (upd (upd G4 t (.tup [.int (i:Nat),.str x])) D (.lst (qs.map V.ref++[.ref t]))) qs (((JU rs r).take j).map λy=>(i,y)):=⟨mq.1,λk p' m a b=>by
           have z:=mq.2 k p' m a b
           have n1:p'≠D:=λe=>by rw[e,hD4]at z;cases z
           rw[qg n1]
           exact qo z ht⟩
         rw[List.take_add_one,ex,List.map_append]
         exact e1.app (jf.one (by rw[qg nt];exact qd))
     . rintro σ'' G4 ⟨v0,qs,rfl,s4,hD4,mq⟩
       rw[List.length_map,List.take_of_length_le (Nat.le_refl _)]at mq
       have sHG:Same H G4:=(sGP.trans sE).trans s4
       have hl4:=s4 _ _ (sE _ _ hlP)
       have mv4:=(mvP.mono sE).mono s4
       have ml:=Jp gd le hh.in_ i (Nat.le_of_lt hi)
       have l8:=hh.le
       have rl:=WJ (rs:=rs) r
       refine⟨l,D,_,_,rfl,rfl,hl4,hD4,?_,?_⟩
       . rw[List.length_map,List.length_map,mv4.1,mq.1,List.length_map]
         exact Nat.le_of_lt (qu (by omega))
       . refine⟨_,_,ps++qs,rfl,Same.upd sHG hl0,by rw[qd,List.map_append],?_⟩
         rw[zC,ezz,KZ,<-er,Zl gd.nd hr']
         have ne:∀{p':Addr} {m:Nat×Str},G4 p'=some (.tup (kr m))->p'≠l:=λh e=>by rw[e,hl4]at h;cases h
         have up:∀{ps:List Addr} {ms:List (Nat×Str)},jf G4 ps ms->jf (upd G4 l (.lst (List.map V.ref ps++List.map V.ref qs))) ps ms:=λh=>⟨h.1,λk p' m a b=>by
           have z:=h.2 k p' m a b
           rw[qg (ne z)]
           exact z⟩
         refine jf.app ?_ ?_
         . exact⟨mv4.1,λk p' m a b=>by
             have z:=mv4.2 k p' m a b
             rw[qg (ne z)]
             exact z⟩
         . exact⟨mq.1,λk p' m a b=>by
             have z:=mq.2 k p' m a b
             rw[qg (ne z)]
             exact z⟩
   . rintro σ' G ⟨v3,v4,ps,rfl,sG,hlG,mv⟩
     rw[List.length_map]at mv
     exact⟨_,rfl,q G l ps sG hl0 hlG mv⟩
end
end Rh
set_option Elab.async false
set_option linter.all false
set_option maxRecDepth 100000
set_option maxHeartbeats 4000000
namespace Rh
open PySem L2 PyProof.Rows
theorem RM (K:PySem.W.Frag):PySem.W.kitOne K (.type "int") (.type "int")=some true:=by kernel_rfl
theorem RN (K:PySem.W.Frag):PySem.W.kitOne K (.type "int") (.type "bool")=some false:=by kernel_rfl
theorem RP (K:PySem.W.Frag):PySem.W.kitOne K (.type "bool") (.type "bool")=some true:=by kernel_rfl
theorem RO (K:PySem.W.Frag):PySem.W.kitOne K (.type "bool") (.type "int")=some true:=by kernel_rfl
theorem RJ (K:PySem.W.Frag):PySem.W.kitOne K (.type "NoneType") (.type "tuple")=some false:=by kernel_rfl
theorem RL (K:PySem.W.Frag):PySem.W.kitOne K (.type "int") (.type "tuple")=some false:=by kernel_rfl
theorem RI (K:PySem.W.Frag):PySem.W.kitOne K (.type "str") (.type "tuple")=some false:=by kernel_rfl
theorem RK (K:PySem.W.Frag):PySem.W.kitOne K (.type "list") (.type "tuple")=some false:=by kernel_rfl
def mD (m:Nat×Str):PyData:=.tuple [.int (m.1:Int),.str m.2]
theorem jf.tail {H:Hp} {p:Addr} {ps:List Addr} {m:Nat×Str} {ms:List (Nat×Str)} (h:jf H (p::ps) (m::ms)):jf H ps ms:=⟨Nat.succ.inj h.1,λi a b e1 e2=>h.2 (i+1) a b (by simpa using e1) (by simpa using e2)⟩
theorem Gx {K:PySem.W.Frag} {H:Hp} {p:Addr} {m:Nat×Str} (h:H p=some (.tup (kr m))):DV K H (.ref p) (mD m):=.tup (.of h) (.cons (.int _) (.cons (.str _) .nil))
theorem Vb {K:PySem.W.Frag} {H:Hp}:∀{ps:List Addr} {ms:List (Nat×Str)},jf H ps ms->DVs K H (ps.map V.ref) (ms.map mD)
 | [],[],_=>.nil
 | [],_::_,h=>by cases h.1
 | _::_,[],h=>by cases h.1
 | p::ps,m::ms,h=>.cons (Gx (h.2 0 p m rfl rfl)) (Vb h.tail)
theorem Xq:∀{ms:List (Nat×Str)},(∀m∈ms,qN m.2=true)->PyData.canLayAll0 (ms.map mD)=true
 | [],_=>rfl
 | m::ms,h=>by
   rw[List.map_cons,PyData.canLayAll0,Xq λy hy=>h y (List.mem_cons_of_mem _ hy),Bool.and_true]
   show (true&&(PyData.strOk m.2&&true))=true
   rw[Z2 (h m List.mem_cons_self)]
   rfl
theorem Qm {rs:jK} {hs:List Str} {n:Nat} {m:Nat×Str} (h:m∈jV rs hs n):m.1 < n/\m.2∈Gf rs (zc hs m.1):=by
 unfold jV at h
 obtain⟨j,hj,h2⟩:=List.mem_flatMap.mp h
 obtain⟨e,he,rfl⟩:=List.mem_map.mp h2
 exact⟨List.mem_range.mp hj,he⟩
theorem Qr {rs:jK} {hs:List Str} (g:qI rs) (hi:∀z∈hs,∃r∈rs,r.1=z):∀m∈jV rs hs hs.length,qN m.2=true:=λm hm=>by
 obtain⟨h1,h2⟩:=Qm hm
 obtain⟨r,hr,e⟩:=hi _ (ZX h1)
 rw[<-e,Zl g.nd hr]at h2
 exact YD g (XI h2)
theorem xS {z:Str} {d:PyData} (h:PyData.eqv (.str z) d=true):d=.str z:=by
 cases d with
 | str y=>
   have e:(z==y)=true:=h
   rw[beq_iff_eq]at e
   rw[e]
 | _=>cases h
theorem uO {m:Nat×Str} {i:Int} {d:PyData} (h:PyData.eqv (mD m) (.tuple [.int i,d])=true):(m.1:Int)=i/\d=.str m.2:=by
 have h1:(((m.1:Int)==i)&&(PyData.eqv (.str m.2) d&&true))=true:=h
 rw[Bool.and_true,Bool.and_eq_true,beq_iff_eq]at h1
 exact⟨h1.1,xS h1.2⟩
theorem k9 (m:Nat×Str):PyData.eqv (mD m) (mD m)=true:=by
 show (((m.1:Int)==(m.1:Int))&&((m.2==m.2)&&true))=true
 simp
inductive Zs (K:PySem.W.Frag) (H:Hp) (ms:List (Nat×Str)):V->Prop
 | ty {v:V} {t:Value}:TyOf K H v t->PySem.W.kitOne K t (.type "tuple")=some false->Zs K H ms v
 | len {p:Addr} {xs:List V}:H p=some (.tup xs)->xs.length≠2->Zs K H ms (.ref p)
 | who {p:Addr} {x y:V} {t:Value}:H p=some (.tup [x,y])->TyOf K H x t->(PySem.W.kitOne K t (.type "int")=some false\/(PySem.W.kitOne K t (.type "int")=some true/\PySem.W.kitOne K t (.type "bool")=some true))->Zs K H ms (.ref p)
 | out {p:Addr} {i:Int} {y:V} {d:PyData}:H p=some (.tup [.int i,y])->DV K H y d->d.canLay0=true->d.depth<=30->(∀m∈ms,¬((m.1:Int)=i/\d=.str m.2))->Zs K H ms (.ref p)
theorem Zs.keep {K:PySem.W.Frag} {H H':Hp} {ms:List (Nat×Str)} {v:V} (h:Zs K H ms v) (s:JB H H'):Zs K H' ms v:=by
 cases h with
 | ty a b=>exact .ty (Rh.TyOf.keep a s) b
 | len a b=>exact .len (s _ _ a (λ_ z=>nomatch z)) b
 | who a b c=>exact .who (s _ _ a (λ_ z=>nomatch z)) (Rh.TyOf.keep b s) c
 | out a b c d e=>exact .out (s _ _ a (λ_ z=>nomatch z)) (jX s b) c d e
def R6 (K:PySem.W.Frag) (H:Hp) (ms:List (Nat×Str)) (v:V) (b:Bool):Prop:=(b=true/\∃p m,v=.ref p/\H p=some (.tup (kr m))/\m∈ms)\/(b=false/\Zs K H ms v)
def Vk (K:PySem.W.Frag):Sp:=λvs H Q _=>∃x t,vs=[x]/\TyOf K H x t/\((PySem.W.kitOne K t (.type "int")=some false/\Q (.bl false) H)\/(PySem.W.kitOne K t (.type "int")=some true/\∃b,PySem.W.kitOne K t (.type "bool")=some b/\Q (.bl (!b)) H))
def zg (K:PySem.W.Frag) (CG:Addr):Sp:=λvs H Q _=>∃(g h:Addr) (rs:jK) (hs:List Str) (v:V) (b:Bool),vs=[.ref g,.ref h,v]/\Qt CG H g rs/\qI rs/\rs.length<=14/\jH H h rs hs/\R6 K H (jV rs hs hs.length) v b/\∀H',Same H H'->Q (.bl b) H'
def vv:Sp:=λvs H Q _=>∃(h p:Addr) (hs:List Str) (m:Nat×Str),vs=[.ref h,.ref p]/\H h=some (.lst (hs.map V.str))/\H p=some (.tup (kr m))/\m.1 < hs.length/\∀l,H l=none->Q (.ref l) (upd H l (.lst ((hs.set m.1 m.2).map V.str)))
def J8 (CG:Addr):Sp:=λvs H Q _=>∃(g h p:Addr) (rs:jK) (hs:List Str) (m:Nat×Str),vs=[.ref g,.ref h,.ref p]/\Qt CG H g rs/\qI rs/\rs.length<=14/\jH H h rs hs/\H p=some (.tup (kr m))/\m∈jV rs hs hs.length/\
 ∀H' l,Same H H'->H l=none->H' l=some (.lst ((hs.set m.1 m.2).map V.str))->Q (.ref l) H'
def zh (K:PySem.W.Frag) (CG CM:Addr):Sp:=λvs H Q E=>∃(g h:Addr) (rs:jK) (hs:List Str) (v:V),vs=[.ref g,.ref h,v]/\Qt CG H g rs/\qI rs/\rs.length<=14/\jH H h rs hs/\Zs K H (jV rs hs hs.length) v/\
 ∀H1 dx,Same H H1->H1 dx=some (.xd [(Str.ofString "found",v)])->E (.ref CM) (some dx) H1
structure HM (K:PySem.W.Frag) (mg:Str->Option Value):Prop where
 mt:∃t,mg "MOST_TOKENS"=some (.int 8 t)
 pl:∃f fd,jC K mg "need_place" Jb xB f fd
 nh:∃f fd,jC K mg "need_heap" JQ ["ground","heap"] f fd
 mo:∃f fd,jC K mg "moves_of" QI ["ground","heap"] f fd
 wh:∃f fd,jC K mg "is_whole" YY ["thing"] f fd
 im:∃f fd,jC K mg "is_move" Z1 ["ground","heap","thing"] f fd
 lb:∃f fd,jC K mg "left_by" Vt ["heap","move"] f fd
 bool:mg "bool"=none
section
variable {P:Program} {w:World} {K:PySem.W.Frag} {mg:Str->Option Value} {base:Heap}
abbrev KQ:List Str:=["ground","heap"]
theorem Ri:qA KQ KQ (qi Yp):=⟨rfl,rfl,rfl,by decide+kernel,rfl,by decide+kernel,by decide+kernel⟩
theorem HM.moves {CG:Addr} (Z:HM K mg) (B:JF mg) (G:Qi mg) (T:Qh K mg) (M:GM K mg CG):∃f fd,jC K mg "moves_of" QI ["ground","heap"] f fd/\qp P w K mg base q5 4 f fd ["ground","heap"] (Vn CG):=by
 obtain⟨fP,fdP,hP⟩:=Z.pl
 obtain⟨fH,fdH,hH⟩:=Z.nh
 obtain⟨f,fd,h⟩:=Z.mo
 exact⟨f,fd,h,ke h.fn B G T M hP Z.mt hH⟩
theorem VG {f CG:Addr} {fd:FuncData} (F:Qa K "is_over" "is_over" Yp f fd) (B:JF mg) (G:Qi mg) (T:Qh K mg) (M:GM K mg CG) (Z:HM K mg):qp P w K mg base q5 5 f fd KQ (YV CG):=by
 obtain⟨fM,fdM,hM,GMv⟩:=Z.moves (P:=P) (w:=w) (base:=base) B G T M
 refine F.okJ Ri (λvs H Q E h=>?_) (λcdv A outer s H vs Q E hr h=>?_)
 . obtain⟨g,h',rs,hs,rfl,_⟩:=h
   rfl
 . obtain⟨g,h',rs,hs,rfl,gr,gd,le,hh,q⟩:=h
   refine⟨_,ql (qH (Qn j6 (qw qz (by rfl) B.len boot_len (qb (qP hM GMv hr (by rfl) (qb (jv 0) (qb (jv 1) qe))) qe)) qj (qy _))),?_⟩
   refine⟨_,rfl,_,rfl,g,h',rs,hs,rfl,gr,gd,le,hh,λH1 l ps s1 hl hl1 mv=>⟨l,_,rfl,.inl (.of hl1),rfl,?_⟩⟩
   have e:decide (V.int ((ps.map V.ref).length:Nat)=V.int 0)=(jV rs hs hs.length).isEmpty:=by
     rw[List.length_map,mv.1]
     cases jV rs hs hs.length with
     | nil=>rfl
     | cons a l=>
       refine decide_eq_false λz=>?_
       have:=V.int.inj z
       rw[List.length_cons]at this
       omega
   rw[e]
   exact q H1 s1
theorem Rf:qA ["thing"] ["thing"] (qi YY):=⟨rfl,rfl,rfl,by decide+kernel,rfl,by decide+kernel,by decide+kernel⟩
theorem vZ {f:Addr} {fd:FuncData} (F:Qa K "is_whole" "is_whole" YY f fd) (B:JF mg) (T:Qh K mg) (hb:mg "bool"=none):qp P w K mg base q5 1 f fd ["thing"] (Vk K):=by
 refine F.okJ Rf (λvs H Q E h=>?_) (λcdv A outer s H vs Q E hr h=>?_)
 . obtain⟨x,t,rfl,_⟩:=h
   rfl
 . obtain⟨x,t,rfl,ty,h⟩:=h
   refine⟨_,ql (qH (Xl (qw jz (by rfl) T.isi boot_isinstance (qb (jv 0) (qb (Qx (v:=.ty "int") (by rfl) B.int boot_int rfl) qe)))
     (Xj (kJ (qw jz (by rfl) T.isi boot_isinstance (qb (jv 0) (qb (Qx (v:=.ty "bool") (by rfl) hb boot_bool rfl) qe))))))),?_⟩
   rcases h with ⟨k,q⟩ | ⟨k,b,k2,q⟩
   . exact⟨_,rfl,_,_,_,_,rfl,rfl,ty,k,_,rfl,jP q⟩
   . exact⟨_,rfl,_,_,_,_,rfl,rfl,ty,k,_,rfl,Q3 ⟨_,rfl,_,_,_,_,rfl,rfl,ty,k2,_,rfl,q⟩⟩
abbrev KU:List Str:=["ground","heap","thing"]
theorem Rk:qA KU KU (qi Z1):=⟨rfl,rfl,rfl,by decide+kernel,rfl,by decide+kernel,by decide+kernel⟩
theorem Yv {f CG:Addr} {fd:FuncData} (F:Qa K "is_move" "is_move" Z1 f fd) (B:JF mg) (G:Qi mg) (T:Qh K mg) (M:GM K mg CG) (Z:HM K mg):qp P w K mg base q5 5 f fd KU (zg K CG):=by
 obtain⟨fM,fdM,hM,GMv⟩:=Z.moves (P:=P) (w:=w) (base:=base) B G T M
 obtain⟨fW,fdW,hW⟩:=Z.wh
 have GW:qp P w K mg base q5 1 fW fdW ["thing"] (Vk K):=vZ hW.fn B T Z.bool
 refine F.okJ Rk (λvs H Q E h=>?_) (λcdv A outer s H vs Q E hr h=>?_)
 . obtain⟨g,h',rs,hs,v,b,rfl,_⟩:=h
   rfl
 . obtain⟨g,h',rs,hs,v,b,rfl,gr,gd,le,hh,im,q⟩:=h
   refine⟨_,qh (jd (Jg (Qg (jS (qw jz (by rfl) T.isi boot_isinstance (qb (jv 2) (qb (Qx (v:=.ty "tuple") (by rfl) G.tup boot_tuple rfl) qe)))))
       (Jg (qv vW (qw qz (by rfl) B.len boot_len (qb (jv 2) qe)) qj (qy _))
       (QA (Qg (jS (qP hW GW (hr.mono (by decide)) (by rfl) (qb (qW jG (jv 2) qj (λ_ _=>rfl)) qe))))))).pt (ql (qH JM)) qD)
     (ql (qH (Qn (uc hr.units) (jv 2) (qP hM GMv hr (by rfl) (qb (jv 0) (qb (jv 1) qe))) (by with_unfolding_all rfl)))),?_⟩
   have key:(b=false/\((∃t,TyOf K H v t/\PySem.W.kitOne K t (.type "tuple")=some false)\/(∃p xs,v=.ref p/\H p=some (.tup xs)/\xs.length≠2)\/(∃p x y t,v=.ref p/\H p=some (.tup [x,y])/\TyOf K H x t/\(PySem.W.kitOne K t (.type "int")=some false\/(PySem.W.kitOne K t (.type "int")=some true/\PySem.W.kitOne K t (.type "bool")=some true)))))\/
       (∃p i y d,v=.ref p/\H p=some (.tup [.int i,y])/\DV K H y d/\d.canLay0=true/\d.depth<=30/\((jV rs hs hs.length).map mD).any (λz=>PyData.eqv z (.tuple [.int i,d]))=b):=by
     rcases im with ⟨rfl,p,m,rfl,hp,hm⟩ | ⟨rfl,nm⟩
     . refine .inr ⟨p,_,_,.str m.2,rfl,hp,.str _,Z2 (Qr gd hh.in_ m hm),Nat.zero_le _,?_⟩
       exact List.any_eq_true.mpr ⟨mD m,List.mem_map.mpr ⟨m,hm,rfl⟩,k9 m⟩
     . cases nm with
       | ty a c=>exact .inl ⟨rfl,.inl ⟨_,a,c⟩⟩
       | len a c=>exact .inl ⟨rfl,.inr (.inl ⟨_,_,rfl,a,c⟩)⟩
       | who a c e=>exact .inl ⟨rfl,.inr (.inr ⟨_,_,_,_,rfl,a,c,e⟩)⟩
       | out a c e f k=>
         refine .inr ⟨_,_,_,_,rfl,a,c,e,f,?_⟩
         rw[List.any_eq_false]
         intro z hz h
         obtain⟨m,hm,rfl⟩:=List.mem_map.mp hz
         exact k m hm (uO h)
   rcases key with ⟨rfl,⟨t,ty,k⟩ | ⟨p,xs,rfl,hp,hx⟩ | ⟨p,x,y,t,rfl,hp,ty,k⟩⟩ | ⟨p,i,y,d,rfl,hp,dv,cl,dp,an⟩
   . refine⟨_,rfl,_,_,_,_,rfl,rfl,ty,k,_,rfl,Q3 (Q3 ?_)⟩
     exact q H (Same.refl H)
   . refine⟨_,rfl,_,_,_,_,rfl,rfl,.tup hp,T.ktt,_,rfl,jP ⟨_,rfl,p,_,rfl,.inr (.of hp),rfl,_,rfl,jr ?_ (Q3 (q H (Same.refl H)))⟩⟩
     show (!decide (V.int (xs.length:Nat)=V.int 2))=true
     rw[decide_eq_false λz=>hx (by have:=V.int.inj z;omega)]
     rfl
   . refine⟨_,rfl,_,_,_,_,rfl,rfl,.tup hp,T.ktt,_,rfl,jP ⟨_,rfl,p,_,rfl,.inr (.of hp),rfl,_,rfl,jk rfl ?_⟩⟩
     refine⟨_,rfl,p,_,0,_,rfl,rfl,.of hp,rfl,x,t,rfl,ty,?_⟩
     rcases k with k | ⟨k1,k2⟩
     . exact .inl ⟨k,_,rfl,Q3 (q H (Same.refl H))⟩
     . exact .inr ⟨k1,_,k2,_,rfl,Q3 (q H (Same.refl H))⟩
   . refine⟨_,rfl,_,_,_,_,rfl,rfl,.tup hp,T.ktt,_,rfl,jP ⟨_,rfl,p,_,rfl,.inr (.of hp),rfl,_,rfl,jk rfl ?_⟩⟩
     refine⟨_,rfl,p,_,0,_,rfl,rfl,.of hp,rfl,.int i,_,rfl,.int i,.inr ⟨RM K,_,RN K,_,rfl,jP ?_⟩⟩
     refine⟨_,rfl,_,rfl,_,rfl,g,h',rs,hs,rfl,gr,gd,le,hh,λH1 l ps s1 hl hl1 mv=>?_⟩
     refine⟨.tuple [.int i,d],(jV rs hs hs.length).map mD,.tup (.of (s1 _ _ hp)) (.cons (.int i) (.cons (jX s1.keep dv) .nil)),.lst (.of hl1) (Vb mv),?_,Xq (Qr gd hh.in_),?_,?_⟩
     . show (true&&(d.canLay0&&true))=true
       rw[cl]
       rfl
     . simp only[PyData.depth,PyData.depthAll]
       omega
     . show Q (.bl (((jV rs hs hs.length).map mD).any λz=>PyData.eqv z (.tuple [.int i,d]))) H1
       rw[an]
       exact q H1 s1
abbrev nLb:List Str:=["heap","move","left"]
theorem Kz:qA nLb ["heap","move"] (qi Vt):=⟨rfl,rfl,rfl,by decide+kernel,rfl,by decide+kernel,by decide+kernel⟩
theorem xq {f:Addr} {fd:FuncData} (F:Qa K "left_by" "left_by" Vt f fd) (G:Qi mg):qp P w K mg base q5 1 f fd ["heap","move"] vv:=by
 refine F.okJ Kz (λvs H Q E h=>?_) (λcdv A outer s H vs Q E hr h=>?_)
 . obtain⟨h',p,hs,m,rfl,_⟩:=h
   rfl
 . obtain⟨h',p,hs,m,rfl,hh,hp,hm,q⟩:=h
   refine⟨_,qh (qt (i:=2) Kz.nd rfl (Or.inl rfl) (qR qT (by rfl) G.lst boot_list (qb (jv 0) qe)))
     (qh (Xe (qW jG (jv 1) qj (λ_ _=>rfl)) (kI (jv 2) (qW jG (jv 1) qj (λ_ _=>rfl)) XG))
     (ql (qH (jv 2)))),?_⟩
   refine⟨_,rfl,h',_,rfl,.inl (.of hh),λl hl=>?_⟩
   refine⟨_,rfl,p,_,1,_,rfl,rfl,.of (qo hp hl),rfl,_,rfl,_,rfl,p,_,0,_,rfl,rfl,.of (qo hp hl),rfl,l,_,(m.1:Int),m.1,rfl,rfl,qd,?_,_,rfl,?_⟩
   . unfold yr
     rw[if_pos (by omega),if_pos (by rw[List.length_map];omega)]
     rfl
   . have e:(hs.map V.str).set m.1 (.str m.2)=(hs.set m.1 m.2).map V.str:=by rw[List.map_set]
     rw[jN,e]
     exact q l hl
abbrev yq:List Str:=["ground","heap","move"]
theorem KB:qA yq yq (qi JR):=⟨rfl,rfl,rfl,by decide+kernel,rfl,by decide+kernel,by decide+kernel⟩
theorem XR {f CG:Addr} {fd:FuncData} (F:Qa K "after" "after" JR f fd) (B:JF mg) (G:Qi mg) (T:Qh K mg) (M:GM K mg CG) (Z:HM K mg):qp P w K mg base q5 6 f fd yq (J8 CG):=by
 obtain⟨fP,fdP,hP⟩:=Z.pl
 obtain⟨fH,fdH,hH⟩:=Z.nh
 obtain⟨fI,fdI,hI⟩:=Z.im
 obtain⟨fL,fdL,hL⟩:=Z.lb
 have GH:qp P w K mg base q5 3 fH fdH ["ground","heap"] (Jk CG):=Jd hH.fn B G T M hP Z.mt
 have GI:qp P w K mg base q5 5 fI fdI KU (zg K CG):=Yv hI.fn B G T M Z
 have GL:qp P w K mg base q5 1 fL fdL ["heap","move"] vv:=xq hL.fn G
 refine F.okJ KB (λvs H Q E h=>?_) (λcdv A outer s H vs Q E hr h=>?_)
 . obtain⟨g,h',p,rs,hs,m,rfl,_⟩:=h
   rfl
 . obtain⟨g,h',p,rs,hs,m,rfl,gr,gd,le,hh,hp,hm,q⟩:=h
   refine⟨_,qh (qV (qP hH GH (hr.mono (by decide)) (by rfl) (qb (jv 0) (qb (jv 1) qe))))
     (qh (jd (Qg (jS (qP hI GI hr (by rfl) (qb (jv 0) (qb (jv 1) (qb (jv 2) qe)))))) qZ qD)
     (ql (qH (qP hL GL (hr.mono (by decide)) (by rfl) (qb (jv 1) (qb (jv 2) qe)))))),?_⟩
   refine⟨_,rfl,_,rfl,g,h',rs,hs,rfl,gr,hh,λH1 s1=>?_⟩
   refine⟨_,rfl,_,rfl,_,rfl,g,h',rs,hs,_,true,rfl,gr.mono s1,gd,le,hh.mono s1,.inl ⟨rfl,p,m,rfl,s1 _ _ hp,hm⟩,λH2 s2=>⟨_,rfl,jP ?_⟩⟩
   have s12:=s1.trans s2
   refine⟨_,rfl,_,rfl,h',p,hs,m,rfl,(hh.mono s12).at_,s12 _ _ hp,(Qm hm).1,λl hl=>?_⟩
   have hl0:H l=none:=by
     cases z:H l with
     | none=>rfl
     | some u=>rw[s12 _ _ z]at hl;cases hl
   exact q _ l (s12.trans (qk hl)) hl0 qd
theorem vE:qA ["self","found"] ["self","found"] (qi Qv):=⟨rfl,rfl,rfl,by decide+kernel,rfl,by decide+kernel,by decide+kernel⟩
theorem km {D C f:Addr} {fd:FuncData} (x:x4 K mg D "NoMove" "NoMove.__init__" Qv "found" C f fd):qp P w K mg base q5 1 f fd ["self","found"] (spE C "found"):=by
 refine x.fn.okJ vE (λvs H Q E h=>?_) (λcdv A outer s H vs Q E hr h=>?_)
 . obtain⟨e,y,rfl,_⟩:=h
   rfl
 . obtain⟨e,y,rfl,hH,k⟩:=h
   exact⟨_,ql (uC (bm:=.ref D::j7) (jv 0) (jv 1) rfl),_,rfl,_,rfl,e,C,rfl,hH,x.cls,Rx D,x.na,λdx hdx=>k dx hdx⟩
theorem UB {f CG D CM fX:Addr} {fd fdX:FuncData} (F:Qa K "after" "after" JR f fd) (B:JF mg) (G:Qi mg) (T:Qh K mg) (M:GM K mg CG) (Z:HM K mg) (xM:x4 K mg D "NoMove" "NoMove.__init__" Qv "found" CM fX fdX):qp P w K mg base (Jj P w) 6 f fd yq (zh K CG CM):=by
 obtain⟨fP,fdP,hP⟩:=Z.pl
 obtain⟨fH,fdH,hH⟩:=Z.nh
 obtain⟨fI,fdI,hI⟩:=Z.im
 have GH:qp P w K mg base q5 3 fH fdH ["ground","heap"] (Jk CG):=Jd hH.fn B G T M hP Z.mt
 have GI:qp P w K mg base q5 5 fI fdI KU (zg K CG):=Yv hI.fn B G T M Z
 have GX:qp P w K mg base q5 1 fX fdX ["self","found"] (spE CM "found"):=km xM
 refine F.okX KB (λvs H Q E h=>?_) (λcdv A outer s H vs Q E hr h=>?_)
 . obtain⟨g,h',rs,hs,v,rfl,_⟩:=h
   rfl
 . obtain⟨g,h',rs,hs,v,rfl,gr,gd,le,hh,nm,q⟩:=h
   refine⟨_,qh (qV (qP hH GH (hr.mono (by decide)) (by rfl) (qb (jv 0) (qb (jv 1) qe))))
     (qh (jd (Qg (jS (qP hI GI hr (by rfl) (qb (jv 0) (qb (jv 1) (qb (jv 2) qe))))))
       (ql (kE rfl Yr (kL xM.mkr GX (hr.mono (by decide)) (by rfl) xM.ns xM.bi Zg (qb (jv 2) qe)))) qD)
     qZ),?_⟩
   refine⟨_,rfl,_,rfl,g,h',rs,hs,rfl,gr,hh,λH1 s1=>?_⟩
   refine⟨_,rfl,_,rfl,_,rfl,g,h',rs,hs,_,false,rfl,gr.mono s1,gd,le,hh.mono s1,.inr ⟨rfl,nm.keep s1.keep⟩,λH2 s2=>⟨_,rfl,Q3 ?_⟩⟩
   have s12:=s1.trans s2
   refine⟨_,rfl,by show 1<=sizeLine;decide,λe he=>⟨e,v,rfl,qd,λdx hdx=>⟨rfl,e,CM,dx,rfl,?_,xM.rcls,?_⟩⟩⟩
   . exact(VM he hdx).2.1
   . obtain⟨m1,m2,m3⟩:=VM (fs:=[(Str.ofString "found",v)]) he hdx
     exact q _ dx (s12.trans m1) m3
end
end Rh
set_option Elab.async false
set_option linter.all false
set_option maxRecDepth 100000
set_option maxHeartbeats 4000000
namespace Rh
open PySem L2 PyProof.Rows
abbrev Y0:Stmt:=top 43
abbrev Jl:Stmt:=top 44
theorem atI_get {xs:List V} {r:Int} (h0:0<=r) (h1:r < (xs.length:Int)):∃v,Z9 xs r=some v/\xs[r.toNat]?=some v:=by
 have:r.toNat < xs.length:=by omega
 refine⟨xs[r.toNat],?_,List.getElem?_eq_getElem this⟩
 unfold Z9 yr
 rw[if_pos h0,if_pos h1]
 exact List.getElem?_eq_getElem this
def Vp:Sp:=λvs H Q _=>∃(d l:Addr) (mo:Nat) (n s t:Int) (ps:List Addr) (rs:jK),vs=[.ref d,.ref l,.int (mo:Int)]/\H d=some (.dK (src n s t))/\jy H l ps rs/\mo<=8/\
 ∀(D:Addr) (hs:List Str) (n' t':Int) (H':Hp),H D=none->H' D=some (.lst (hs.map V.str))->hs.length<=mo->(∀z∈hs,∃r∈rs,r.1=z)->H' d=some (.dK (src n' s t'))->Fr H d H'->Q (.ref D) H'
def zf:Sp:=λvs H Q _=>∃(l h:Addr) (ps:List Addr) (rs:jK) (hs:List Str),vs=[.ref l,.ref h]/\jy H l ps rs/\jH H h rs hs/\
 ∀H' lf qs,Same H H'->H lf=none->H' lf=some (.lst (qs.map V.ref))->jf H' qs (jV rs hs hs.length)->Q (.ref lf) H'
theorem jy.fr' {H H':Hp} {l d:Addr} {ps:List Addr} {rs:jK} {kv:List (qQ×V)} (h:jy H l ps rs) (hd:H d=some (.dK kv)) (s:Fr H d H'):jy H' l ps rs:=by
 refine⟨s _ _ h.at_ (λe=>?_),⟨h.rows.1,λi p r e1 e2=>?_⟩,h.good,h.pos,h.le⟩
 . have:=h.at_
   rw[e,hd]at this
   cases this
 . obtain⟨q,a,b⟩:=h.rows.2 i p r e1 e2
   exact⟨q,s _ _ a (λe=>by rw[e,hd]at a;cases a),s _ _ b (λe=>by rw[e,hd]at b;cases b)⟩
section
variable {P:Program} {w:World} {K:PySem.W.Frag} {mg:Str->Option Value} {base:Heap}
abbrev KS:List Str:=["_law_source_here","_law_rows_here","_law_most"]
theorem Rj:qA KS KS (qi Y0):=⟨rfl,rfl,rfl,by decide+kernel,rfl,by decide+kernel,by decide+kernel⟩
theorem kh {f fT:Addr} {fd fdT:FuncData} (F:Qa K "_law_heap" "_law_heap" Y0 f fd) (B:JF mg) (hT:jC K mg "_law_take" Zb ["_law_source_here","_law_many"] fT fdT):qp P w K mg base q5 2 f fd KS Vp:=by
 have GT:qp P w K mg base q5 1 fT fdT ["_law_source_here","_law_many"] Q7:=Jn hT.fn
 refine F.okJ Rj (λvs H Q E h=>?_) (λcdv A outer s H vs Q E hr h=>?_)
 . obtain⟨d,l,mo,n,sd,t,ps,rs,rfl,_⟩:=h
   rfl
 . obtain⟨d,l,mo,n,sd,t,ps,rs,rfl,hd,g,mo8,q⟩:=h
   refine⟨_,ql (qH (Zk (N':=["_law_k","_law_rows_here","_law_source_here"]) (ix:=[none,some 1,some 0])
     (te:=Xx (Ur K) (Xx (vL K) (jt 1) (zd Q7 [] E0 (jc (jt 2) (jc (wc (λxs H Q=>∃p ys,xs=[.ref p]/\(SqL K H p ys\/SqT K H p ys)/\Q (.int ys.length) H) (jc (jt 1) Qk)) Qk)))) (tC (.int 0))) rfl ⟨rfl,rfl,rfl,rfl,rfl⟩
     (jO (by rfl) B.rng (qb (qP hT GT hr (by rfl) (qb (jv 0) (qb (qM j4 (jv 2) qj) qe))) qe))
     (λC s2 H2 fp pins=>⟨qF (i:=0) (show (["_law_k","_law_rows_here","_law_source_here"]:List Str).Nodup by decide+kernel) rfl (Or.inl rfl),Qc,
       qW jG (qW jg (jv 1) (qP hT GT hr (by rfl) (qb (jv 2) (qb (qw qz (by rfl) B.len boot_len (qb (jv 1) qe)) qe))) (λ_ _=>rfl)) qj (λ_ _=>rfl)⟩))),?_⟩
   refine⟨_,rfl,_,rfl,_,_,rfl,rfl,d,(mo:Int)+1,n,sd,t,rfl,hd,by omega,by omega,λr n1 t1 r0 r1=>⟨r,rfl,by omega,by omega,λD hD=>?_⟩⟩
   have nDd:D≠d:=λe=>by rw[e,qd]at hD;cases hD
   have hD0:H D=none:=by rw[qg nDd]at hD;exact hD
   refine Jv (λi σ' H'=>∃(v:Option V) (n' t':Int) (hs:List Str),σ'=[v,some (.ref l),some (.ref d)]/\H' d=some (.dK (src n' sd t'))/\H' D=some (.lst (hs.map V.str))/\hs.length=i/\(∀z∈hs,∃r∈rs,r.1=z)/\Fr H d H')
     ⟨none,n1,t1,[],rfl,?_,qd,rfl,λ_ h=>(nomatch h),(Fr.refl.at_d).new hD⟩ ?_ ?_
   . rw[qg (Ne.symm nDd)]
     exact qd
   . rintro i σ' H' hi ⟨v,n',t',hs,rfl,hd',hD',hl,ha,fr⟩
     have g':=g.fr' hd fr
     have pl:(ps.map V.ref).length=rs.length:=by rw[List.length_map,g.rows.1]
     have le:=g.le
     have ps0:=g.pos
     refine⟨_,rfl,_,rfl,_,rfl,l,_,rfl,.inl (.of g'.at_),d,((ps.map V.ref).length:Nat),n',sd,t',rfl,hd',by rw[pl];omega,?_,λr n3 t3 r0 r1=>?_⟩
     . rw[pl]
       have:rs.length < 2^200:=Nat.lt_of_le_of_lt le (by decide)
       omega
     obtain⟨x,ex,gx⟩:=atI_get r0 r1
     obtain⟨p,qq,r',rfl,er,hr',ea,eb⟩:=g'.rows.item gx
     have ndl:l≠d:=λe=>by
       have:=g'.at_
       rw[e,hd']at this
       cases this
     have ndp:p≠d:=λe=>by rw[e,hd']at ea;cases ea
     refine⟨l,_,r,_,rfl,rfl,.of (by rw[qg ndl];exact g'.at_),ex,p,_,0,_,rfl,rfl,.of (by rw[qg ndp];exact ea),rfl,_,by rw[qg nDd];exact hD',?_,_,n3,t3,hs++[r'.1],rfl,?_,?_,?_,?_,?_⟩
     . rw[List.length_map,hl]
       exact qu (by omega)
     . rw[qg (Ne.symm nDd)];exact qd
     . rw[qd,List.map_append];rfl
     . rw[List.length_append,hl];rfl
     . intro z hz
       rcases List.mem_append.mp hz with h | h
       . exact ha z h
       . obtain rfl:=List.mem_singleton.mp h
         exact⟨r',hr',rfl⟩
     . exact(fr.at_d).own hD0
   . rintro σ' H' ⟨v,n',t',hs,rfl,hd',hD',hl,ha,fr⟩
     exact q D hs n' t' H' hD0 hD' (by omega) ha hd' fr
abbrev nLM:List Str:=["_law_rows_here","_law_heap_here","_law_leads_here","_law_found","_law_token","_law_place","_law_other","_law_others"]
abbrev wZ:List Str:=["_law_rows_here","_law_heap_here"]
theorem WF:qA nLM wZ (qi Jl):=⟨rfl,rfl,rfl,by decide+kernel,rfl,by decide+kernel,by decide+kernel⟩
theorem Yu {f:Addr} {fd:FuncData} (F:Qa K "_law_moves" "_law_moves" Jl f fd) (T:Qh K mg) (hdi:mg "dict"=none):qp P w K mg base q5 1 f fd wZ zf:=by
 refine F.okJ WF (λvs H Q E h=>?_) (λcdv A outer s H vs Q E hr h=>?_)
 . obtain⟨l,h',ps,rs,hs,rfl,_⟩:=h
   rfl
 . obtain⟨l,h',ps,rs,hs,rfl,g,hh,q⟩:=h
   have hu:=JN hr
   refine⟨_,qh (qt (i:=2) WF.nd rfl (Or.inl rfl) (qR (W3 rfl) (by rfl) hdi boot_dict (qb (jv 0) qe)))
     (qh (qt (i:=3) WF.nd rfl (Or.inl rfl) (qO qe))
     (qh (j0 PassesOwn.never rfl (Xi (by rfl) T.enu (qb (jv 1) qe)) (JV rfl (jq (qF (i:=4) WF.nd rfl (Or.inl rfl)) (jq (qF (i:=5) WF.nd rfl (Or.inl rfl)) QT)))
       (ql (j0 PassesOwn.never rfl (jW (jv 0)) (JV rfl (jq (qF (i:=6) WF.nd rfl (Or.inl rfl)) (jq (qF (i:=7) WF.nd rfl (Or.inl rfl)) QT)))
         (ql (jd (qv Yt (jv 6) (jm hu (jv 2) (jv 5) (λ_ _=>rfl)) (by with_unfolding_all rfl))
           (ql (qV (Q0 PySem.F.plainAttrs_list PySem.F.slot_list_append PySem.F.type_list_append ju (jv 3) (qb (jl (qb (jv 4) (qb (jv 6) qe))) qe)))) qD)))))
     (ql (qH (jv 3))))),?_⟩
   obtain⟨qs,lq,hqs⟩:=VA ps rs g.rows
   have le:=g.le
   refine⟨_,rfl,l,ps,Zj rs qs,rfl,.of g.at_,by rw[zE lq,g.rows.1],λi a kv e1 e2=>?_,by rw[zE lq];omega,λdd hdd=>?_⟩
   . obtain⟨r',q',f1,f2,rfl⟩:=kB lq e2
     exact .of (hqs i a q' r' e1 f1 f2).1
   have nk:((Zj rs qs).map (·.1)).Nodup:=by
     rw[ZA lq]
     exact Jo g.good.nd λa _ b _ e=>Sum.inr.inj e
   rw[Yy nk (λk _ m=>by simp at m),List.nil_append]
   have s1:Same H (upd H dd (.dK (Zj rs qs))):=qk hdd
   have hd1:upd H dd (.dK (Zj rs qs)) dd=some (.dK (Zj rs qs)):=qd
   generalize upd H dd (.dK (Zj rs qs))=H1 at s1 hd1
   refine⟨by show 0<=sizeLine;decide,λlf hlf=>?_⟩
   have hlf0:H lf=none:=by
     cases z:H lf with
     | none=>rfl
     | some u=>rw[s1 _ _ z]at hlf;cases hlf
   have s2:Same H (upd H1 lf (.lst [])):=s1.trans (qk hlf)
   have hd2:=qo (o':=HO.lst []) hd1 hlf
   have hf2:upd H1 lf (.lst []) lf=some (.lst []):=qd
   generalize upd H1 lf (.lst [])=H2 at s2 hf2 hd2
   have nfd:lf≠dd:=λe=>by rw[e,hd2]at hf2;cases hf2
   refine⟨_,rfl,h',rfl,⟨_,.of (s2 _ _ hh.at_)⟩,?_⟩
   refine zQ (K:=K) (a:=h') (xs:=hs.map V.str) (λi σ' G=>∃v4 v5 v6 v7 ms,σ'=[some (.ref l),some (.ref h'),some (.ref dd),some (.ref lf),v4,v5,v6,v7]/\Same H G/\G dd=some (.dK (Zj rs qs))/\G lf=some (.lst (ms.map V.ref))/\jf G ms (jV rs hs i))
     ⟨_,_,_,_,[],rfl,s2,hd2,hf2,jf.nil _⟩ (λi σ' G _ ⟨_,_,_,_,_,_,s,_⟩=>.of (s _ _ hh.at_)) ?_ ?_
   . rintro i y σ' G p hy hp ⟨v4,v5,v6,v7,ms,rfl,sG,hdG,hfG,mv⟩
     obtain⟨z,ez,hz,rfl⟩:=ZY hy
     have hi:=(List.getElem?_eq_some_iff.mp ez).1
     have ezz:zc hs i=z:=by
       have:=JZ hi
       rw[ez]at this
       exact(Option.some.inj this).symm
     obtain⟨r,hr',er⟩:=hh.in_ z hz
     obtain⟨i0,hi0⟩:=List.getElem?_of_mem hr'
     obtain⟨q0,eq0,ekv⟩:=VN lq hi0
     have hi0':=(List.getElem?_eq_some_iff.mp hi0).1
     have hq0:=(hqs i0 _ q0 r (List.getElem?_eq_getElem (by rw[g.rows.1];exact hi0')) hi0 eq0).2
     refine⟨p,_,rfl,.of qd,rfl,_,_,rfl,_,_,rfl,rfl,?_⟩
     have sP:Same G (upd G p (.tup [.int (i:Nat),.str z])):=qk hp
     have sGP:=sG.trans sP
     have hdP:=sP _ _ hdG
     have hfP:=sP _ _ hfG
     have mvP:=mv.mono sP
     generalize upd G p (.tup [.int (i:Nat),.str z])=G1 at sP sGP hdP hfP mvP
     refine⟨_,rfl,l,rfl,⟨_,.of (sGP _ _ g.at_)⟩,?_⟩
     refine QM (K:=K) (a:=l) (xs:=ps.map V.ref) (λj σ' G'=>∃v6 v7 ms,σ'=[some (.ref l),some (.ref h'),some (.ref dd),some (.ref lf),some (.int (i:Nat)),some (.str z),v6,v7]/\Same H G'/\G' dd=some (.dK (Zj rs qs))/\G' lf=some (.lst (ms.map V.ref))/\
         jf G' ms (jV rs hs i++(((rs.map (·.1)).take j).filter λy=>Z4 (.str y) (r.2.map V.str)).map λy=>(i,y)))
       ⟨_,_,ms,rfl,sGP,hdP,hfP,by simpa using mvP⟩ (λj σ' G' _ ⟨_,_,_,_,s,_⟩=>.of (s _ _ g.at_)) ?_ ?_
     . rintro j y σ' G' hy ⟨v6,v7,ms,rfl,sG',hd',hf',mv'⟩
       obtain⟨p',qq,r',rfl,er',hrr,ea,eb⟩:=(g.rows.mono sG').item hy
       have hj:=(List.getElem?_eq_some_iff.mp er').1
       have en:(rs.map (·.1))[j]?=some r'.1:=by rw[List.getElem?_map,er'];rfl
       have gd:=Qj.k (k:=(Sum.inr r.1:qQ)) hd'
       rw[yC nk ekv]at gd
       have gd:Qj G' dd (.str z) (some (.ref q0)):=er▸gd
       have mlen:=Jp g.good le hh.in_ i (Nat.le_of_lt hi)
       have l8:=hh.le
       have lenM:(ms.map V.ref).length < sizeLine:=by
         rw[List.length_map,mv'.1,List.length_append,List.length_map]
         have h1:=List.length_filter_le (λy=>Z4 (.str y) (r.2.map V.str)) ((rs.map (·.1)).take j)
         rw[List.length_take,List.length_map]at h1
         exact qu (by omega)
       refine⟨p',_,rfl,.of ea,rfl,_,_,rfl,_,_,rfl,rfl,?_⟩
       refine⟨_,rfl,_,rfl,_,rfl,dd,_,rfl,gd,q0,_,rfl,.inr (.of (sG' _ _ hq0)),rfl,Js _,_,rfl,?_⟩
       have et:((rs.map (·.1)).take (j+1)).filter (λy=>Z4 (.str y) (r.2.map V.str))=((rs.map (·.1)).take j).filter (λy=>Z4 (.str y) (r.2.map V.str))++if Z4 (.str r'.1) (r.2.map V.str)=true then [r'.1] else []:=by
         rw[List.take_add_one,en,List.filter_append]
         congr 1
         cases c:Z4 (.str r'.1) (r.2.map V.str)
         . simp [c]
         . simp [c]
       rw[et]
       show if Z4 (.str r'.1) (r.2.map V.str)=true then _ else _
       cases ci:Z4 (.str r'.1) (r.2.map V.str) with
       | false=>
         refine jP ⟨_,_,ms,rfl,sG',hd',hf',?_⟩
         rw[if_neg Bool.false_ne_true,List.append_nil]
         exact mv'
       | true=>
         refine Q3 ⟨_,rfl,.inl ⟨rfl,_,.of hf'⟩,_,rfl,_,rfl,by show 2<=sizeLine;decide,λt ht=>?_⟩
         refine⟨lf,_,_,rfl,rfl,qo hf' ht,lenM,_,_,ms++[t],rfl,?_,?_,?_,?_⟩
         . exact Same.upd (sG'.trans (qk ht)) hlf0
         . rw[qg (Ne.symm nfd)];exact qo hd' ht
         . rw[qd,List.map_append];rfl
         . rw[if_pos rfl,List.map_append,<-List.append_assoc]
           have nt:t≠lf:=λz=>by rw[z,hf']at ht;cases ht
           refine jf.app ⟨mv'.1,λk p' m a b=>?_⟩ (jf.one (by rw[qg nt];exact qd))
           have z:=mv'.2 k p' m a b
           have n1:p'≠lf:=λe=>by rw[e,hf']at z;cases z
           rw[qg n1]
           exact qo z ht
     . rintro σ' G' ⟨v6,v7,ms,rfl,sG',hd',hf',mv'⟩
       refine⟨_,_,_,_,ms,rfl,sG',hd',hf',?_⟩
       have e0:(rs.map (·.1)).take (ps.map V.ref).length=rs.map (·.1):=List.take_of_length_le (by rw[List.length_map,List.length_map,g.rows.1];exact Nat.le_refl _)
       rw[e0]at mv'
       rw[zC,ezz,KZ,<-er,Zl g.good.nd hr']
       exact mv'
   . rintro σ' G ⟨v4,v5,v6,v7,ms,rfl,sG,hdG,hfG,mv⟩
     rw[List.length_map]at mv
     exact⟨_,rfl,q G lf ms sG hlf0 hfG mv⟩
end
end Rh
set_option Elab.async false
set_option linter.all false
set_option maxRecDepth 100000
set_option maxHeartbeats 4000000
namespace L2
theorem qp.or {P:PySem.Program} {w:PySem.World} {K:PySem.W.Frag} {mg:PySem.Str->Option PySem.Value} {base:PySem.Heap} {CX:ZI} {k:Nat} {f:PySem.Addr} {fd:PySem.FuncData} {ps:List PySem.Str} {sp sp':Sp} (a:qp P w K mg base CX k f fd ps sp) (b:qp P w K mg base CX k f fd ps sp'):qp P w K mg base CX k f fd ps (λvs H Q E=>sp vs H Q E\/sp' vs H Q E):=
 ⟨λvs H Q E h=>h.elim (a.len vs H Q E) (b.len vs H Q E),λA outer s H args us vs Q E hr he hb hv hs=>hs.elim (a.run A outer s H args us vs Q E hr he hb hv) (b.run A outer s H args us vs Q E hr he hb hv)⟩
end L2
namespace Rh
open PySem L2 PyProof.Rows
def Wk (rs:jK):List Str->List (Nat×Str)->Prop
 | _,[]=>True
 | hs,m::ms=>m∈jV rs hs hs.length/\Wk rs (hs.set m.1 m.2) ms
def qX:List Str->List (Nat×Str)->List Str
 | hs,[]=>hs
 | hs,m::ms=>qX (hs.set m.1 m.2) ms
theorem YA (hs:List Str) (ms:List (Nat×Str)) (m:Nat×Str):qX hs (ms++[m])=(qX hs ms).set m.1 m.2:=by
 induction ms generalizing hs with
 | nil=>rfl
 | cons a ms ih=>exact ih _
def QE (rs:jK) (hs:List Str):Prop:=hs.length<=8/\∀z∈hs,∃r∈rs,r.1=z
theorem ur {rs:jK} {hs:List Str} {m:Nat×Str} (g:qI rs) (hi:∀z∈hs,∃r∈rs,r.1=z) (h:m∈jV rs hs hs.length):∃r∈rs,r.1=m.2:=by
 obtain⟨h1,h2⟩:=Qm h
 obtain⟨r,hr,e⟩:=hi _ (ZX h1)
 rw[<-e,Zl g.nd hr]at h2
 exact XI h2
theorem QE.set {rs:jK} {hs:List Str} {m:Nat×Str} (o:QE rs hs) (g:qI rs) (h:m∈jV rs hs hs.length):QE rs (hs.set m.1 m.2):=⟨by rw[List.length_set];exact o.1,λz hz=>by
 rcases List.mem_or_eq_of_mem_set hz with k | k
 . exact o.2 z k
 . rw[k]
   exact ur g o.2 h⟩
theorem QE.last {rs:jK} (g:qI rs) {hs:List Str} {ms:List (Nat×Str)} (o:QE rs hs) (h:Wk rs hs ms):QE rs (qX hs ms):=by
 induction ms generalizing hs with
 | nil=>exact o
 | cons m ms ih=>exact ih (o.set g h.1) h.2
theorem ji {H H':Hp} {d b:Addr} {o:HO} {kv:List (qQ×V)} (fr:Fr H d H') (hd:H d=some (.dK kv)) (hb:H b=some o) (no:∀kv,o≠.dK kv):H' b=some o:=fr _ _ hb λe=>by
 rw[e,hd]at hb
 exact no _ (Option.some.inj hb).symm
theorem jf.lst {H:Hp} {l:Addr} {xs:List V} {o:HO} {qs:List Addr} {ms:List (Nat×Str)} (h:jf H qs ms) (hl:H l=some (.lst xs)):jf (upd H l o) qs ms:=⟨h.1,λi p m e1 e2=>by
 have:=h.2 i p m e1 e2
 rw[qg (λz=>by rw[z,hl]at this;cases this)]
 exact this⟩
structure Yb (d:PyData):Prop where
 sh:d.showable=true
 dp:d.depth<=5
 ln:d.shown.length<=120
 cl:d.canLay0=true
theorem jY:∀{ds:List PyData},(∀d∈ds,Yb d)->PyData.showableAll ds=true
 | [],_=>rfl
 | d::ds,h=>by rw[PyData.showableAll,(h d List.mem_cons_self).sh,jY λy hy=>h y (List.mem_cons_of_mem _ hy)];rfl
theorem QO:∀{ds:List PyData},(∀d∈ds,Yb d)->PyData.depthAll ds<=5
 | [],_=>by rw[PyData.depthAll];decide
 | d::ds,h=>by
   rw[PyData.depthAll]
   have h1:=(h d List.mem_cons_self).dp
   have h2:=QO λy hy=>h y (List.mem_cons_of_mem _ hy)
   omega
theorem Qo:∀{ds:List PyData},(∀d∈ds,Yb d)->((PyData.shownAll ds).map (·.length)).sum<=120*ds.length/\(PyData.shownAll ds).length=ds.length
 | [],_=>⟨Nat.le_refl _,rfl⟩
 | d::ds,h=>by
   have h1:=(h d List.mem_cons_self).ln
   have h2:=Qo λy hy=>h y (List.mem_cons_of_mem _ hy)
   rw[PyData.shownAll,List.map_cons,List.sum_cons,List.length_cons,List.length_cons]
   omega
theorem vz:Yb .none:=⟨rfl,Nat.zero_le _,by decide+kernel,rfl⟩
theorem wN (b:Bool):Yb (.bool b):=by
 cases b
 . exact⟨rfl,Nat.zero_le _,by decide+kernel,rfl⟩
 . exact⟨rfl,Nat.zero_le _,by decide+kernel,rfl⟩
theorem YF:∀n,n < 9->((PyData.int (n:Nat)).showable=true/\(PyData.int (n:Nat)).shown.length<=120):=by decide+kernel
theorem J9 {n:Nat} (h:n < 9):Yb (.int (n:Nat)):=⟨(YF n h).1,Nat.zero_le _,(YF n h).2,rfl⟩
theorem wM:Yb (.int (-1)):=⟨by decide+kernel,Nat.zero_le _,by decide+kernel,rfl⟩
theorem zi {z:Str} (hl:z.length<=9) (hc:∀c∈z.cps.toList,c<=122):Yb (.str z):=by
 refine⟨rfl,Nat.zero_le _,?_,?_⟩
 . have:=Y4 hc
   show (reprText z).length<=120
   omega
 . show PyData.strOk z=true
   unfold PyData.strOk
   rw[Array.all_eq_true_iff_forall_mem]
   intro c h
   have:=hc c (by simpa using h)
   exact decide_eq_true (by omega)
theorem Q8 {z:Str} (h:qN z=true):Yb (.str z):=zi (Nat.le_trans (jZ h).2.1 (by decide)) (jZ h).1
theorem XS:Yb (.str (Str.ofString "nowhere0"))/\qN (Str.ofString "nowhere0")=false:=⟨zi (by decide+kernel) (by decide+kernel),by decide+kernel⟩
theorem yQ {a b:PyData} (ha:Yb a) (hb:Yb b):∀d∈[a,b],Yb d:=λd hd=>by
 rcases List.mem_cons.mp hd with rfl | hd
 . exact ha
 . rw[List.mem_singleton.mp hd];exact hb
theorem VS:∀n,n < 9->(PyData.int (n:Nat)).shown.length<=1:=by decide+kernel
def dM (ms:List (Nat×Str)):PyData:=.list (ms.map mD)
theorem WB {m:Nat×Str} (h:m.1 < 9) (hn:qN m.2=true):Yb (mD m):=by
 have s1:=J9 h
 have s2:=Q8 hn
 refine⟨jY (yQ s1 s2),?_,?_,?_⟩
 . show PyData.depth (.tuple [.int (m.1:Int),.str m.2])<=5
   simp only[PyData.depth,PyData.depthAll]
   decide
 . show (tupleText [(PyData.int (m.1:Int)).shown,(PyData.str m.2).shown]).length<=120
   have h1:=tupleText_len_le [(PyData.int (m.1:Int)).shown,(PyData.str m.2).shown]
   have h2:(PyData.str m.2).shown.length<=10*m.2.length+2:=Y4 (jZ hn).1
   have h3:=(jZ hn).2.1
   have h4:=VS m.1 h
   simp only[List.map_cons,List.map_nil,List.sum_cons,List.sum_nil,List.length_cons,List.length_nil]at h1
   omega
 . show (true&&(PyData.strOk m.2&&true))=true
   rw[Z2 hn]
   rfl
structure W9 (K:PySem.W.Frag) (ms:List (Nat×Str)):Prop where
 sh:(dM ms).showable=true
 dp:(dM ms).depth<=60
 ln:(dM ms).shown.length<=sizeLine
 sp:PySem.SeqAt.shaped (dM ms)=true
theorem VI {K:PySem.W.Frag} {ms:List (Nat×Str)} (h:∀m∈ms,m.1 < 9/\qN m.2=true) (l:ms.length<=112):W9 K ms:=by
 have al:∀d∈ms.map mD,Yb d:=λd hd=>by
   obtain⟨m,hm,rfl⟩:=List.mem_map.mp hd
   exact WB (h m hm).1 (h m hm).2
 have hd:=QO al
 refine⟨jY al,?_,?_,?_⟩
 . unfold dM
   simp only[PyData.depth]
   omega
 . show (listText (PyData.shownAll (ms.map mD))).length<=sizeLine
   have h1:=listText_len_le (PyData.shownAll (ms.map mD))
   obtain⟨h2,h3⟩:=Qo al
   rw[List.length_map]at h2 h3
   exact Nat.le_trans (Nat.le_trans h1 (by omega:_<=100000)) (by decide)
 . unfold PySem.SeqAt.shaped
   rw[Bool.and_eq_true]
   refine⟨Xq λm hm=>(h m hm).2,decide_eq_true ?_⟩
   unfold dM
   simp only[PyData.depth]
   omega
theorem U9 {K:PySem.W.Frag} {H:Hp} {p:Addr} {ps:List Addr} {ms:List (Nat×Str)} (h:H p=some (.lst (ps.map V.ref))) (mv:jf H ps ms):DV K H (.ref p) (dM ms):=.lst (.of h) (Vb mv)
theorem Wb (ms:List (Nat×Str)):PyData.eqv (dM ms) (.list [])=ms.isEmpty:=by
 cases ms<;>rfl
theorem wq:PySem.SeqAt.shaped (.list [])=true:=by decide+kernel
theorem Yn:∀{zs:List Str},(∀z∈zs,qN z=true)->PyData.showableAll (zs.map PyData.str)=true/\PyData.hasDictAll (zs.map PyData.str)=false/\PyData.depthAll (zs.map PyData.str)<=1/\((PyData.shownAll (zs.map PyData.str)).map (·.length)).sum<=100*zs.length/\(PyData.shownAll (zs.map PyData.str)).length=zs.length
 | [],_=>by decide+kernel
 | z::zs,h=>by
   obtain⟨a,b,c,d,e⟩:=Yn λy hy=>h y (List.mem_cons_of_mem _ hy)
   have hz:=h z List.mem_cons_self
   have h2:(PyData.str z).shown.length<=10*z.length+2:=Y4 (jZ hz).1
   have h3:=(jZ hz).2.1
   refine⟨?_,?_,?_,?_,?_⟩
   . rw[List.map_cons,PyData.showableAll,a];rfl
   . rw[List.map_cons,PyData.hasDictAll,b];rfl
   . rw[List.map_cons,PyData.depthAll]
     show max (PyData.depth (.str z)) _<=1
     simp only[PyData.depth]
     omega
   . rw[List.map_cons,PyData.shownAll,List.map_cons,List.sum_cons,List.length_cons]
     omega
   . rw[List.map_cons,PyData.shownAll,List.length_cons,List.length_cons,e]
theorem QE.names {rs:jK} {hs:List Str} (o:QE rs hs) (g:qI rs):∀z∈hs,qN z=true:=λz hz=>YD g (o.2 z hz)
theorem yz {rs:jK} (g:qI rs) {ms:List (Nat×Str)}:∀{hs:List Str},QE rs hs->Wk rs hs ms->∀m∈ms,m.1 < 9/\qN m.2=true:=by
 induction ms with
 | nil=>intro hs _ _ m hm;cases hm
 | cons a ms ih=>
   intro hs o wk m hm
   rcases List.mem_cons.mp hm with e | e
   . rw[e]
     have h1:=(Qm wk.1).1
     have h2:=o.1
     exact⟨by omega,Qr g o.2 a wk.1⟩
   . exact ih (o.set g wk.1) wk.2 m e
section
variable {P:Program} {w:World} {K:PySem.W.Frag} {mg:Str->Option Value} {base:Heap}
theorem K9 {X:Cx} {x:Str} {st:Stmt} {ps:List Str} {f:Addr} {fd:FuncData} {k:Nat} {sp:Sp} {E:XK} {e:Expr} {es:List Expr} {t:TA} {p pos:Pos} (h:jC X.K X.mg x st ps f fd) (G:qp X.prog X.w X.K X.mg X.base (Jj X.prog X.w) k f fd ps sp) (hr:qY k X.A) (hx:jx (Jj X.prog X.w) X E)
   (hg:Gl X x) (ha:JA X (e::es) t) (hdb:(x==("__debug__":Str))=false:=by decide) (he:starEach (e::es) X.env=(false,eval e X.env)::starEach es X.env:=by rfl) (hpl:(backTo pos (starEach es X.env)).any (·.1)=false:=by rfl):
   JE X (.Call (.Name x p) (e::es) [] pos) (zd sp [] E t):=.of (VF G hr hg h.ns h.fn.kp h.bi .nil hx ha.to hdb he hpl)
end
def Q5 (G:Hp) (lf:Addr):Hp:=λb=>if b=lf then none else G b
theorem Jh (G:Hp) (lf:Addr):Same (Q5 G lf) G:=λb o h=>by
 unfold Q5 at h
 by_cases e:b=lf
 . rw[if_pos e]at h;cases h
 . rw[if_neg e]at h;exact h
theorem Qd {G:Hp} {lf b:Addr} {o:HO} (h:G b=some o) (n:b≠lf):Q5 G lf b=some o:=by
 unfold Q5
 rw[if_neg n]
 exact h
abbrev Uj:Stmt:=top 34
abbrev QQ:Stmt:=top 35
abbrev Qw:Stmt:=top 45
def jo (b m a o:Int) (v:V):List (qQ×V):=[(Sum.inr (Str.ofString "by"),.int b),(Sum.inr (Str.ofString "more"),.int m),(Sum.inr (Str.ofString "asked"),.int a),(Sum.inr (Str.ofString "odd at"),.int o),(Sum.inr (Str.ofString "odd"),v)]
theorem ZD {H:Hp} {d:Addr} {kvs:List (qQ×V)} {z:Str} {v:V} (h:H d=some (.dK kvs)) (e:js kvs (Sum.inr z)=some v):Qj H d (.str z) (some v):=by
 have q:=Qj.k (k:=(Sum.inr z:qQ)) h
 rw[e]at q
 exact q
section
variable {b m a o:Int} {v:V}
theorem vBy:js (jo b m a o v) (Sum.inr (Str.ofString "by"))=some (.int b):=qK rfl
theorem Kf:js (jo b m a o v) (Sum.inr (Str.ofString "more"))=some (.int m):=(qG (QK (by decide+kernel))).trans (qK rfl)
theorem vc:js (jo b m a o v) (Sum.inr (Str.ofString "asked"))=some (.int a):=(qG (QK (by decide+kernel))).trans ((qG (QK (by decide+kernel))).trans (qK rfl))
theorem uZ:js (jo b m a o v) (Sum.inr (Str.ofString "odd at"))=some (.int o):=(qG (QK (by decide+kernel))).trans ((qG (QK (by decide+kernel))).trans ((qG (QK (by decide+kernel))).trans (qK rfl)))
theorem wH:js (jo b m a o v) (Sum.inr (Str.ofString "odd"))=some v:=(qG (QK (by decide+kernel))).trans ((qG (QK (by decide+kernel))).trans ((qG (QK (by decide+kernel))).trans ((qG (QK (by decide+kernel))).trans (qK rfl))))
end
def uQ (rs:jK) (hs:List Str) (b m t:Int):Option (Nat×Str):=(jV rs hs hs.length)[((b*(t+3)+m) % ((jV rs hs hs.length).length:Int)).toNat]?
theorem Ju {rs:jK} {hs:List Str} {b m t:Int} {x:Nat×Str} (h:uQ rs hs b m t=some x):x∈jV rs hs hs.length:=List.mem_of_getElem? h
theorem Wf {rs:jK} {hs:List Str} (b m t:Int) (h:jV rs hs hs.length≠[]):∃x,uQ rs hs b m t=some x:=by
 have l:=List.length_pos_iff.mpr h
 have h1:=Int.emod_lt_of_pos (b*(t+3)+m) (show (0:Int) < ((jV rs hs hs.length).length:Int) by omega)
 have h0:=Int.emod_nonneg (b*(t+3)+m) (show ((jV rs hs hs.length).length:Int)≠0 by omega)
 exact⟨_,List.getElem?_eq_getElem (by omega)⟩
theorem k8 {z:Str} {d:PyData} (h:PyData.eqv d (.str z)=true):d=.str z:=by
 cases d with
 | str y=>
   have e:(y==z)=true:=h
   rw[beq_iff_eq]at e
   rw[e]
 | _=>cases h
abbrev u4 (x:Nat×Str):Bool:=decide (V.int (x.1:Int)=V.int 1)
def W7 (H:Hp) (v:V) (dO:PyData) (x:Nat×Str) (u:V):Prop:=
 (dO=.str (Str.ofString "truth")/\x.1 < 2/\∃p,u=.ref p/\H p=some (.tup [.bl (u4 x),.str x.2]))\/(¬(dO=.str (Str.ofString "truth")/\x.1 < 2)/\u=v)
def QH (K:PySem.W.Frag):Sp:=λvs H Q _=>∃(l h dn:Addr) (ps:List Addr) (rs:jK) (hs:List Str) (b m a o t:Int) (v:V) (dO:PyData),vs=[.ref l,.ref h,.ref dn,.int t]/\jy H l ps rs/\jH H h rs hs/\H dn=some (.dK (jo b m a o v))/\0<=b/\b<=1000/\0<=t/\t<=2000/\DV K H v dO/\PySem.SeqAt.shaped dO=true/\
 ((jV rs hs hs.length=[]/\∀H',Same H H'->Q .non H')\/∃x,uQ rs hs b m t=some x/\((o=t/\∀H' u,Same H H'->W7 H' v dO x u->Q u H')\/(o≠t/\∀H' p,Same H H'->H' p=some (.tup (kr x))->Q (.ref p) H')))
section
variable {P:Program} {w:World} {K:PySem.W.Frag} {mg:Str->Option Value} {base:Heap}
abbrev nCh:List Str:=["_law_rows_here","_law_heap_here","_law_number","_law_turn","_law_moves_here","_law_move"]
abbrev va:List Str:=["_law_rows_here","_law_heap_here","_law_number","_law_turn"]
theorem wS:qA nCh va (qi Qw):=⟨rfl,rfl,rfl,by decide+kernel,rfl,by decide+kernel,by decide+kernel⟩
theorem Yw {f fM:Addr} {fd fdM:FuncData} (F:Qa K "_law_choice" "_law_choice" Qw f fd) (B:JF mg) (T:Qh K mg) (hdi:mg "dict"=none) (hM:jC K mg "_law_moves" Jl wZ fM fdM):qp P w K mg base q5 2 f fd va (QH K):=by
 have GMv:qp P w K mg base q5 1 fM fdM wZ zf:=Yu hM.fn T hdi
 refine F.okJ wS (λvs H Q E h=>?_) (λcdv A outer s H vs Q E hr h=>?_)
 . obtain⟨l,h',dn,ps,rs,hs,b,m,a,o,t,v,dO,rfl,_⟩:=h
   rfl
 . obtain⟨l,h',dn,ps,rs,hs,b,m,a,o,t,v,dO,rfl,g,hh,hn,b0,b1,t0,t1,dv,sh,q⟩:=h
   have hu:=JN hr
   refine⟨_,qh (qt (i:=4) wS.nd rfl (Or.inl rfl) (qP hM GMv hr (by rfl) (qb (jv 0) (qb (jv 1) qe))))
     (qh (jd (qv (Y6 hr.units) (jv 4) (qO qe) (qy _)) (ql (qH WT)) qD)
     (qh (qt (i:=5) wS.nd rfl (Or.inl rfl) (qW jg (jv 4) (qM jQ (qM j4 (qM Qq (jm hu (jv 2) qx (λ_ _=>rfl)) (qM j4 (jv 3) qj)) (jm hu (jv 2) qx (λ_ _=>rfl))) (qw qz (by rfl) B.len boot_len (qb (jv 4) qe))) (λ_ _=>rfl)))
     (qh (jd (JW.pt (jR (qv j6 (jm hu (jv 2) qx (λ_ _=>rfl)) (jv 3) (qy _)) (jR (qv (Y6 hr.units) (jm hu (jv 2) qx (λ_ _=>rfl)) qx (qy _)) (jI (qv j3 (qW jG (jv 5) qj (λ_ _=>rfl)) qj (qy _))))))
         (ql (qH (jl (qb (Qn j6 (qW jG (jv 5) qj (λ_ _=>rfl)) qj (qy _)) (qb (qW jG (jv 5) qj (λ_ _=>rfl)) qe))))) qD)
     (qh (jd (qv j6 (jm hu (jv 2) qx (λ_ _=>rfl)) (jv 3) (qy _)) (ql (qH (jm hu (jv 2) qx (λ_ _=>rfl)))) qD)
     (ql (qH (jv 5))))))),?_⟩
   have good:=g.good
   refine⟨_,rfl,_,rfl,l,h',ps,rs,hs,rfl,g,hh,λH1 lf qs s1 nlf hlf mv=>?_⟩
   have mn:=Qr good hh.in_
   have ml:=Jp good g.le hh.in_ hs.length (Nat.le_refl _)
   have h8:=hh.le
   have mt:∀x∈jV rs hs hs.length,x.1 < 9/\qN x.2=true:=λx hx=>⟨by have:=(Qm hx).1;omega,mn x hx⟩
   have md:W9 K (jV rs hs hs.length):=VI mt (by omega)
   refine⟨_,rfl,by show 0<=sizeLine;decide,λe0 he0=>?_⟩
   have s2:=qk (o:=HO.lst []) he0
   have h2:upd H1 e0 (.lst []) e0=some (.lst []):=qd
   generalize upd H1 e0 (.lst [])=H2 at s2 h2
   have s02:=s1.trans s2
   have hlf2:=s2 _ _ hlf
   have mv2:=mv.mono s2
   refine⟨dM (jV rs hs hs.length),.list [],U9 hlf2 mv2,.lst (.of h2) .nil,md.sp,wq,_,rfl,?_⟩
   rw[Wb]
   rcases q with ⟨em,q⟩ | ⟨x,ex,q⟩
   . rw[em]
     exact jr rfl (q H2 s02)
   . have xm:=Ju ex
     have ne:(jV rs hs hs.length).isEmpty=false:=by
       cases z:jV rs hs hs.length with
       | nil=>rw[z]at xm;cases xm
       | cons a l=>rfl
     rw[ne]
     refine jk rfl ?_
     have lp:0 < (jV rs hs hs.length).length:=List.length_pos_iff.mpr λz=>by rw[z]at ne;cases ne
     have hn2:=s02 _ _ hn
     have lq:=mv2.1
     refine⟨_,rfl,_,rfl,dn,_,rfl,ZD hn2 vBy,_,rfl,_,_,rfl,rfl,_,_,rfl,rfl,.inl ⟨by omega,by omega⟩,_,rfl,dn,_,rfl,ZD hn2 Kf,_,_,rfl,rfl,_,rfl,lf,_,rfl,.inl (.of hlf2),_,_,rfl,rfl,by rw[List.length_map,lq];omega,?_⟩
     rw[List.length_map,lq]
     have i0:=Int.emod_nonneg (b*(t+3)+m) (show ((jV rs hs hs.length).length:Int)≠0 by omega)
     have i1:=Int.emod_lt_of_pos (b*(t+3)+m) (show (0:Int) < ((jV rs hs hs.length).length:Int) by omega)
     unfold uQ at ex
     generalize hii:(b*(t+3)+m) % ((jV rs hs hs.length).length:Int)=ii at i0 i1 ex
     have ep:qs[ii.toNat]?=some (qs[ii.toNat]'(by omega)):=List.getElem?_eq_getElem (by omega)
     generalize qs[ii.toNat]'(by omega)=p at ep
     have hp:=mv2.2 _ p x ep ex
     have eii:Z9 (qs.map V.ref) ii=some (.ref p):=by
       obtain⟨jn,rfl⟩:∃jn:Nat,ii=(jn:Int):=⟨ii.toNat,by omega⟩
       exact Zq (j:=jn) (by rw[List.getElem?_map];rw[show ((jn:Int)).toNat=jn by omega]at ep;rw[ep];rfl)
     refine⟨lf,_,ii,_,rfl,congrArg V.int hii,.of hlf2,eii,?_⟩
     have dtr:PySem.SeqAt.shaped (.str (Str.ofString "truth"))=true:=by decide+kernel
     refine⟨_,rfl,dn,_,rfl,ZD hn2 uZ,_,rfl,rfl,_,rfl,?_⟩
     rcases q with ⟨rfl,q⟩ | ⟨no,q⟩
     . refine jr (decide_eq_true rfl) ⟨_,rfl,dn,_,rfl,ZD hn2 wH,dO,_,jX s02.keep dv,.str _,sh,dtr,_,rfl,?_⟩
       by_cases c:PyData.eqv dO (.str (Str.ofString "truth"))=true
       . have c':=k8 c
         refine jr c ⟨_,rfl,p,_,0,_,rfl,rfl,.of hp,rfl,_,_,rfl,rfl,_,rfl,?_⟩
         by_cases c2:x.1 < 2
         . refine jr (decide_eq_true (by omega)) ⟨_,rfl,p,_,0,_,rfl,rfl,.of hp,rfl,rfl,_,rfl,p,_,1,_,rfl,rfl,.of hp,rfl,by show 2<=sizeLine;decide,λtp htp=>?_⟩
           exact q _ _ (s02.trans (qk htp)) (.inl ⟨c',c2,tp,rfl,qd⟩)
         . exact jk (decide_eq_false (by omega)) ⟨_,rfl,dn,_,rfl,ZD hn2 uZ,_,rfl,rfl,_,rfl,jr (decide_eq_true rfl) ⟨_,rfl,dn,_,rfl,ZD hn2 wH,q _ _ s02 (.inr ⟨λz=>c2 z.2,rfl⟩)⟩⟩
       . refine jk (by simpa using c) (jP ⟨_,rfl,dn,_,rfl,ZD hn2 uZ,_,rfl,rfl,_,rfl,jr (decide_eq_true rfl) ⟨_,rfl,dn,_,rfl,ZD hn2 wH,q _ _ s02 (.inr ⟨λz=>c ?_,rfl⟩)⟩⟩)
         rw[z.1]
         decide+kernel
     . have nd:decide (V.int o=V.int t)=false:=decide_eq_false λz=>no (V.int.inj z)
       exact jk nd (jP ⟨_,rfl,dn,_,rfl,ZD hn2 uZ,_,rfl,rfl,_,rfl,jk nd ⟨_,rfl,q _ p s02 hp⟩⟩)
end
end Rh
set_option Elab.async false
set_option linter.all false
set_option maxRecDepth 100000
set_option maxHeartbeats 4000000
namespace Rh
open PySem L2 PyProof.Rows
abbrev ZT:Stmt:=top 46
abbrev Ja:Stmt:=(ja ZT).getD 0 (.Pass ⟨0,0,0,0⟩)
def Zf:Str:=(Str.ofString "_law_player"++Str.ofString ".<locals>.")++Str.ofString "_law_player_here"
abbrev Ke (la dn l:Addr) (mine:Int):List (Str×V):=[(Str.ofString "_law_asked",.ref la),(Str.ofString "_law_mine",.int mine),(Str.ofString "_law_number",.ref dn),(Str.ofString "_law_rows_here",.ref l)]
def Fr3 (H:Hp) (a b c:Addr) (H':Hp):Prop:=∀e o,H e=some o->e≠a->e≠b->e≠c->H' e=some o
def Gq (H:Hp) (v:V) (dO:PyData) (x:Nat×Str) (o t:Int) (u:V):Prop:=(o=t/\W7 H v dO x u)\/(o≠t/\∃p,u=.ref p/\H p=some (.tup (kr x)))
def wg (K:PySem.W.Frag) (ws:List (Str×V)):Sp:=λvs H Q _=>∃(l la dn hp:Addr) (ps:List Addr) (rs:jK) (hs:List Str) (b m a o mine:Int) (v:V) (dO:PyData) (xs:List V) (x:Nat×Str),ws=Ke la dn l mine/\vs=[.ref hp]/\jy H l ps rs/\jH H hp rs hs/\H dn=some (.dK (jo b m a o v))/\H la=some (.lst xs)/\la≠hp/\xs.length<=900/\0<=b/\b<=1000/\0<=a/\a<=900/\0<=mine/\mine<=1/\DV K H v dO/\PySem.SeqAt.shaped dO=true/\uQ rs hs b m (2*a+mine)=some x/\
 ∀H' u tp lc,Fr3 H la dn hp H'->H tp=none->H lc=none->H' la=some (.lst (xs++[.ref tp]))->H' tp=some (.tup [.int mine,.ref lc])->H' lc=some (.lst (hs.map V.str))->H' dn=some (.dK (jo b m (a+1) o v))->Gq H' v dO x o (2*a+mine) u->Q u H'
abbrev Kt (K:PySem.W.Frag) (PT f:Addr) (fd:FuncData):Sp:=λvs H Q E=>∃ws,vb H PT f "_law_player_here" Zf Ja fd ws/\wg K ws vs H Q E
def vw (PT:Addr):Sp:=λvs H Q _=>∃(l dn la:Addr) (mine:Int),vs=[.ref l,.ref dn,.ref la,.int mine]/\H PT=some (.tbl #[.str Zf 0])/\∀H' f fd,Same H H'->vb H' PT f "_law_player_here" Zf Ja fd (Ke la dn l mine)->Q (.ref f) H'
theorem w6 {H:Hp} {d:Addr} {b m a o:Int} {v:V} (h:H d=some (.dK (jo b m a o v))) (x:Int):JD H d (.str (Str.ofString "asked")) (.int x) (upd H d (.dK (jo b m x o v))):=by
 have e:jD (jo b m a o v) (Sum.inr (Str.ofString "asked"):qQ) (.int x)=jo b m x o v:=by
   have n1:¬(Str.ofString "by")=Str.ofString "asked":=by decide+kernel
   have n2:¬(Str.ofString "more")=Str.ofString "asked":=by decide+kernel
   have n3:¬(Str.ofString "odd at")=Str.ofString "asked":=by decide+kernel
   have n4:¬(Str.ofString "odd")=Str.ofString "asked":=by decide+kernel
   unfold jD jo
   simp [n1,n2,n3,n4]
 have q:=JD.k (k:=(Sum.inr (Str.ofString "asked"):qQ)) (v:=.int x) h (qu (by show 5<=1000;decide))
 rw[e]at q
 exact q
section
variable {P:Program} {w:World} {K:PySem.W.Frag} {mg:Str->Option Value} {base:Heap}
theorem wt:Ya ["_law_heap_here","_law_asked","_law_mine","_law_number","_law_rows_here","_law_told_here"] ["_law_heap_here"] ["_law_asked","_law_mine","_law_number","_law_rows_here"] (qi Ja):=⟨rfl,rfl,rfl,by decide+kernel,rfl,by decide+kernel,by decide+kernel,by decide+kernel,by decide+kernel⟩
theorem uf {PT f fC:Addr} {fd fdC:FuncData} (G:Qi mg) (hC:jC K mg "_law_choice" Qw va fC fdC) (GC:qp P w K mg base q5 2 fC fdC va (QH K)):qp P w K mg base q5 3 f fd ["_law_heap_here"] (Kt K PT f fd):=by
 refine yh (PT:=PT) (name:="_law_player_here") (qual:=Zf) (st:=Ja) (fr:=["_law_asked","_law_mine","_law_number","_law_rows_here"]) (sp:=wg K) wt (λws vs H Q E h=>?_) (λc' cl A outer s H ws vs Q E hr h=>?_)
 . obtain⟨l,la,dn,hp,ps,rs,hs,b,m,a,o,mine,v,dO,xs,x,rfl,rfl,_⟩:=h
   exact⟨rfl,rfl⟩
 . obtain⟨l,la,dn,hp,ps,rs,hs,b,m,a,o,mine,v,dO,xs,x,rfl,rfl,g,hh,hn,hla,nlh,l900,b0,b1,a0,a1,i0,i1,dv,sh,ex,q⟩:=h
   have hu:=JN hr
   refine⟨_,qh (qt (i:=5) wt.nd rfl (Or.inl rfl) (qP hC GC hr (by rfl) (qb (jv 4) (qb (jv 0) (qb (jv 3) (qb (qM j4 (qM Qq qj (jm hu (jv 3) qx (λ_ _=>rfl))) (jv 2)) qe))))))
     (qh (qV (Q0 PySem.F.plainAttrs_list PySem.F.slot_list_append PySem.F.type_list_append ju (jv 1) (qb (jl (qb (jv 2) (qb (qR qT (by rfl) G.lst boot_list (qb (jv 0) qe)) qe))) qe)))
     (qh (j5 hu (jv 3) qx (qM j4 (jm hu (jv 3) qx (λ_ _=>rfl)) qj) rfl)
     (qh (qV (Q0 PySem.F.plainAttrs_list PySem.F.slot_list_append PySem.F.type_list_append ju (jv 0) (qb qx qe)))
     (ql (qH (jv 5)))))),?_⟩
   refine⟨_,rfl,_,rfl,_,rfl,_,rfl,dn,_,rfl,ZD hn vc,_,_,rfl,rfl,.inl ⟨by decide,by decide⟩,_,rfl,_,_,rfl,rfl,l,hp,dn,ps,rs,hs,b,m,a,o,_,v,dO,rfl,g,hh,hn,b0,b1,by omega,by omega,dv,sh,.inr ⟨x,ex,?_⟩⟩
   refine(λ(rest:∀(H1:Hp) (u:V),Same H H1->Gq H1 v dO x o (2*a+mine) u->_)=>(Classical.em (o=2*a+mine)).elim (λe=>.inl ⟨e,λH1 u s1 od=>rest H1 u s1 (.inl ⟨e,od⟩)⟩) (λe=>.inr ⟨e,λH1 p s1 hp=>rest H1 (.ref p) s1 (.inr ⟨e,p,rfl,hp⟩)⟩)) ?_
   intro H1 u s1 sy
   have hla1:=s1 _ _ hla
   refine⟨_,rfl,.inl ⟨rfl,_,.of hla1⟩,_,rfl,_,rfl,hp,_,rfl,.inl (.of (s1 _ _ hh.at_)),λlc hlc=>?_⟩
   have s2:=qk (o:=HO.lst (hs.map V.str)) hlc
   have y2:upd H1 lc (.lst (hs.map V.str)) lc=some (.lst (hs.map V.str)):=qd
   have flc:H lc=none:=by
     cases z:H lc with
     | none=>rfl
     | some o=>rw[s1 _ _ z]at hlc;cases hlc
   generalize upd H1 lc (.lst (hs.map V.str))=H2 at s2 y2
   refine⟨by show 2<=sizeLine;decide,λtp htp=>?_⟩
   have s3:=qk (o:=HO.tup [V.int mine,.ref lc]) htp
   have y3:upd H2 tp (.tup [V.int mine,.ref lc]) tp=some (.tup [V.int mine,.ref lc]):=qd
   have s12:=s1.trans s2
   have ftp:H tp=none:=by
     cases z:H tp with
     | none=>rfl
     | some o=>rw[s12 _ _ z]at htp;cases htp
   generalize upd H2 tp (.tup [V.int mine,.ref lc])=H3 at s3 y3
   have s13:=s12.trans s3
   have s23:=s2.trans s3
   have hla3:=s13 _ _ hla
   refine⟨la,_,_,rfl,rfl,hla3,qu (by omega),?_⟩
   have hn3:=s13 _ _ hn
   have ndl:dn≠la:=λz=>by rw[z,hla3]at hn3;cases hn3
   have hh3:=s13 _ _ hh.at_
   have ndh:dn≠hp:=λz=>by rw[z,hh3]at hn3;cases hn3
   have hn4:upd H3 la (.lst (xs++[V.ref tp])) dn=some (.dK (jo b m a o v)):=by rw[qg ndl];exact hn3
   have hh4:upd H3 la (.lst (xs++[V.ref tp])) hp=some (.lst (hs.map V.str)):=by rw[qg (Ne.symm nlh)];exact hh3
   refine⟨_,rfl,dn,_,rfl,ZD hn4 vc,_,_,rfl,rfl,_,rfl,dn,_,rfl,w6 hn4 _,?_⟩
   have hh5:upd (upd H3 la (.lst (xs++[V.ref tp]))) dn (.dK (jo b m (a+1) o v)) hp=some (.lst (hs.map V.str)):=by rw[qg (Ne.symm ndh)];exact hh4
   refine⟨_,rfl,.inl ⟨rfl,_,.of hh5⟩,hp,_,_,rfl,rfl,hh5,by rw[List.length_map];have:=hh.le;exact qu (by omega),_,rfl,?_⟩
   have get:∀{e:Addr} {ob:HO},H3 e=some ob->e≠la->e≠dn->e≠hp->upd (upd (upd H3 la (.lst (xs++[V.ref tp]))) dn (.dK (jo b m (a+1) o v))) hp (.lst (hs.map V.str++[V.str (Str.ofString "zz")])) e=some ob:=λhe n1 n2 n3=>by
     rw[qg n3,qg n2,qg n1]
     exact he
   have getT:∀{e:Addr} {ys:List V},H3 e=some (.tup ys)->upd (upd (upd H3 la (.lst (xs++[V.ref tp]))) dn (.dK (jo b m (a+1) o v))) hp (.lst (hs.map V.str++[V.str (Str.ofString "zz")])) e=some (.tup ys):=λhe=>get he (λz=>by rw[z,hla3]at he;cases he) (λz=>by rw[z,hn3]at he;cases he) (λz=>by rw[z,hh3]at he;cases he)
   refine q _ u tp lc (λe ob he n1 n2 n3=>get (s13 _ _ he) n1 n2 n3) ftp flc ?_ (getT y3) ?_ ?_ ?_
   . rw[qg nlh,qg (Ne.symm ndl)]
     exact qd
   . exact get (s3 _ _ y2) (λz=>by rw[z,hla]at flc;cases flc) (λz=>by rw[z,hn]at flc;cases flc) (λz=>by rw[z,hh.at_]at flc;cases flc)
   . rw[qg ndh]
     exact qd
   . rcases sy with ⟨e,od⟩ | ⟨e,p,rfl,hp'⟩
     . refine .inl ⟨e,?_⟩
       rcases od with ⟨c1,c2,p,rfl,hp'⟩ | z
       . exact .inl ⟨c1,c2,p,rfl,getT (s23 _ _ hp')⟩
       . exact .inr z
     . exact .inr ⟨e,p,rfl,getT (s23 _ _ hp')⟩
abbrev kq:List Str:=["_law_rows_here","_law_number","_law_asked","_law_mine","_law_player_here"]
abbrev XM:List Str:=["_law_rows_here","_law_number","_law_asked","_law_mine"]
theorem wu:qA kq XM (qi ZT):=⟨rfl,rfl,rfl,by decide+kernel,rfl,by decide+kernel,by decide+kernel⟩
theorem uj {f c PT:Addr} {fd:FuncData} (F:Qa K "_law_player" "_law_player" ZT f fd) (hc:fd.code=.ref c) (TM:Xt mg base c PT):qp P w K mg base q5 1 f fd XM (vw PT):=by
 refine F.okB hc wu (λvs H Q E h=>?_) (λA outer s H vs Q E hr h=>?_)
 . obtain⟨l,dn,la,mine,rfl,_⟩:=h
   rfl
 . obtain⟨l,dn,la,mine,rfl,htb,q⟩:=h
   refine⟨_,vU (i:=4) (c:=c) (P:=PT) (qual:=Zf) TM wu.nd rfl rfl rfl rfl rfl (λ_=>rfl) rfl rfl rfl (wA (ql (qH (jv 4)))),?_⟩
   refine⟨⟨0,htb⟩,λf' c' doc pm ctv oc H1 mk=>⟨_,rfl,q H1 f' (PySem.W.fnX "_law_player_here" Zf (jA Ja) (ja Ja) (qi Ja) (qS (jL q5 P w K mg base kq "_law_player" (qi ZT) f (.ref c) A outer s H E).env (qi Ja).names []) .none .none doc pm none (.ref c') ctv) mk.same ?_⟩⟩
   refine⟨doc,pm,ctv,c',_,oc,rfl,mk.fn,mk.cd,mk.cq,mk.inj,λx cc e=>?_,λx v' hx=>?_⟩
   . rcases j2 e with z | ⟨z,_⟩
     . simp at z
     . have:∀y∈(qi Ja).names,y.2=.free->y.1∈[Str.ofString "_law_asked",Str.ofString "_law_mine",Str.ofString "_law_number",Str.ofString "_law_rows_here"]:=by decide+kernel
       exact this _ z rfl
   . have key:∀(i:Nat) (y:V),kq[i]?=some x->(jU kq [V.ref l,.ref dn,.ref la,.int mine])[i]?=some (some y)->(x,NameKind.free)∈(qi Ja).names->i≠4->v'=y->∃c o u,(qS (jL q5 P w K mg base kq "_law_player" (qi ZT) f (.ref c) A outer s H E).env (qi Ja).names []).lookup x=some c/\H1 c=some (Xb o)/\o.data=.cell (some u)/\qJ v' u:=λi y hi hy hm n4 ev=>by
       obtain⟨ca,co,u0,e1,e2,e3,e4⟩:=mk.cells _ hm
       obtain⟨u,rfl,ru⟩:=e4 i y hi (by rw[List.getElem?_set_ne (Ne.symm n4)];exact hy)
       rw[ev]
       exact⟨ca,co,u,e1,e2,e3,ru⟩
     have hx:(x=Str.ofString "_law_asked"/\v'=.ref la)\/(x=Str.ofString "_law_mine"/\v'=.int mine)\/(x=Str.ofString "_law_number"/\v'=.ref dn)\/(x=Str.ofString "_law_rows_here"/\v'=.ref l):=by simpa using hx
     rcases hx with ⟨rfl,rfl⟩ | ⟨rfl,rfl⟩ | ⟨rfl,rfl⟩ | ⟨rfl,rfl⟩
     . exact key 2 _ rfl rfl (by decide+kernel) (by decide) rfl
     . exact key 3 _ rfl rfl (by decide+kernel) (by decide) rfl
     . exact key 1 _ rfl rfl (by decide+kernel) (by decide) rfl
     . exact key 0 _ rfl rfl (by decide+kernel) (by decide) rfl
end
end Rh
set_option Elab.async false
set_option linter.all false
set_option maxRecDepth 100000
set_option maxHeartbeats 4000000
namespace Rh
open PySem L2 PyProof.Rows
structure Nm where
 b0:Int
 m0:Int
 b1:Int
 m1:Int
 o:Int
 d:PyData
def Nm.b (N:Nm) (k:Nat):Int:=if k % 2=0 then N.b0 else N.b1
def Nm.m (N:Nm) (k:Nat):Int:=if k % 2=0 then N.m0 else N.m1
def Wg (N:Nm) (rs:jK) (hs:List Str) (k:Nat):Option (Nat×Str):=uQ rs hs (N.b k) (N.m k) (k:Int)
def zb (N:Nm) (rs:jK) (most:Nat):List Str->List (Nat×Str)->Nat->Prop
 | _,[],_=>True
 | hs,x::ms,k=>Wg N rs hs k=some x/\N.o≠(k:Int)/\k < most/\zb N rs most (hs.set x.1 x.2) ms (k+1)
def Gp (N:Nm) (rs:jK) (most:Nat) (hs:List Str) (k:Nat):Prop:=jV rs hs hs.length=[]\/most<=k\/N.o=(k:Int)
theorem V3 {N:Nm} {rs:jK} {hs:List Str} {k:Nat} {x:Nat×Str} (h:Wg N rs hs k=some x):jV rs hs hs.length≠[]:=λz=>by
 have:=Ju h
 rw[z]at this
 cases this
theorem zb.uniq {N:Nm} {rs:jK} {most:Nat}:∀{ms ms':List (Nat×Str)} {hs:List Str} {k:Nat},zb N rs most hs ms k->Gp N rs most (qX hs ms) (k+ms.length)->zb N rs most hs ms' k->Gp N rs most (qX hs ms') (k+ms'.length)->ms=ms'
 | [],[],_,_,_,_,_,_=>rfl
 | [],x::ms',hs,k,_,s,f,_=>by
   obtain⟨a,b,c,_⟩:=f
   rcases s with z | z | z
   . exact absurd z (V3 a)
   . have z:most<=k:=z
     omega
   . exact absurd z b
 | x::ms,[],hs,k,f,_,_,s=>by
   obtain⟨a,b,c,_⟩:=f
   rcases s with z | z | z
   . exact absurd z (V3 a)
   . have z:most<=k:=z
     omega
   . exact absurd z b
 | x::ms,y::ms',hs,k,f,s,f',s'=>by
   obtain⟨a,b,c,e⟩:=f
   obtain⟨a',b',c',e'⟩:=f'
   obtain rfl:x=y:=Option.some.inj (a.symm.trans a')
   rw[List.length_cons,show k+(ms.length+1)=k+1+ms.length by omega]at s
   rw[List.length_cons,show k+(ms'.length+1)=k+1+ms'.length by omega]at s'
   rw[zb.uniq e s e' s']
theorem zb.mk {N:Nm} {rs:jK} {most:Nat} {x:Nat×Str}:∀{ms:List (Nat×Str)} {hs:List Str} {k:Nat},zb N rs most hs ms k->Wg N rs (qX hs ms) (k+ms.length)=some x->N.o≠((k+ms.length:Nat):Int)->k+ms.length < most->zb N rs most hs (ms++[x]) k
 | [],_,_,_,a,b,c=>⟨a,b,c,trivial⟩
 | y::ms,hs,k,f,a,b,c=>by
   rw[List.length_cons,show k+(ms.length+1)=k+1+ms.length by omega]at a b c
   exact⟨f.1,f.2.1,f.2.2.1,zb.mk f.2.2.2 a b c⟩
theorem zb.wk {N:Nm} {rs:jK} {most:Nat}:∀{ms:List (Nat×Str)} {hs:List Str} {k:Nat},zb N rs most hs ms k->Wk rs hs ms
 | [],_,_,_=>trivial
 | x::ms,hs,k,f=>⟨Ju f.1,f.2.2.2.wk⟩
theorem zb.le {N:Nm} {rs:jK} {most:Nat}:∀{ms:List (Nat×Str)} {hs:List Str} {k:Nat},zb N rs most hs ms k->k<=most->k+ms.length<=most
 | [],_,_,_,h=>h
 | x::ms,hs,k,f,_=>by
   have:=zb.le f.2.2.2 f.2.2.1
   rw[List.length_cons]
   omega
def pre:List Str->List (Nat×Str)->List (List Str)
 | _,[]=>[]
 | hs,x::ms=>hs::pre (hs.set x.1 x.2) ms
theorem VD (hs:List Str) (ms:List (Nat×Str)) (x:Nat×Str):pre hs (ms++[x])=pre hs ms++[qX hs ms]:=by
 induction ms generalizing hs with
 | nil=>rfl
 | cons a ms ih=>exact congrArg (hs::·) (ih _)
theorem Jm (hs:List Str) (ms:List (Nat×Str)):(pre hs ms).length=ms.length:=by
 induction ms generalizing hs with
 | nil=>rfl
 | cons a ms ih=>exact congrArg Nat.succ (ih _)
theorem wX {rs:jK} (g:qI rs) {ms:List (Nat×Str)}:∀{hs:List Str},QE rs hs->Wk rs hs ms->∀x∈pre hs ms,QE rs x:=by
 induction ms with
 | nil=>intro hs o _ x hx;cases hx
 | cons m ms ih=>
   intro hs o wk x hx
   rcases List.mem_cons.mp hx with e | e
   . rw[e];exact o
   . exact ih (o.set g wk.1) wk.2 x e
def QD:Nat->List (List Str)->List PyData
 | _,[]=>[]
 | k,h::hh=>.tuple [.int ((k % 2:Nat):Int),dL h]::QD (k+1) hh
def jJ (X:Hp) (no:Addr->Prop):Nat->List V->List (List Str)->Prop
 | _,[],[]=>True
 | k,y::ys,h::hh=>(∃tp lc,y=.ref tp/\X tp=some (.tup [.int ((k % 2:Nat):Int),.ref lc])/\X lc=some (.lst (h.map V.str))/\¬no lc)/\jJ X no (k+1) ys hh
 | _,_,_=>False
theorem jJ.mono {X X':Hp} {no:Addr->Prop} (s:∀e o,X e=some o->((∃ys,o=.tup ys)\/((∃ys,o=.lst ys)/\¬no e))->X' e=some o):∀{k:Nat} {ys:List V} {hh:List (List Str)},jJ X no k ys hh->jJ X' no k ys hh
 | _,[],[],_=>trivial
 | _,_::_,_::_,⟨⟨tp,lc,a,b,c,d⟩,r⟩=>⟨⟨tp,lc,a,s _ _ b (.inl ⟨_,rfl⟩),s _ _ c (.inr ⟨⟨_,rfl⟩,d⟩),d⟩,r.mono s⟩
 | _,[],_::_,h=>h.elim
 | _,_::_,[],h=>h.elim
theorem jJ.snoc {X:Hp} {no:Addr->Prop} {tp lc:Addr} {h:List Str} (hc:X lc=some (.lst (h.map V.str))) (n:¬no lc):∀{k:Nat} {ys:List V} {hh:List (List Str)},jJ X no k ys hh->X tp=some (.tup [.int (((k+hh.length) % 2:Nat):Int),.ref lc])->jJ X no k (ys++[.ref tp]) (hh++[h])
 | _,[],[],_,ht=>⟨⟨tp,lc,rfl,ht,hc,n⟩,trivial⟩
 | k,_::_,_::hh,⟨a,r⟩,ht=>⟨a,r.snoc hc n (by rw[List.length_cons,show k+(hh.length+1)=k+1+hh.length by omega]at ht;exact ht)⟩
 | _,[],_::_,z,_=>z.elim
 | _,_::_,[],z,_=>z.elim
theorem jJ.len {X:Hp} {no:Addr->Prop}:∀{k:Nat} {ys:List V} {hh:List (List Str)},jJ X no k ys hh->ys.length=hh.length
 | _,[],[],_=>rfl
 | _,_::_,_::_,⟨_,r⟩=>congrArg Nat.succ r.len
 | _,[],_::_,z=>z.elim
 | _,_::_,[],z=>z.elim
theorem jJ.dv {K:PySem.W.Frag} {X:Hp} {no:Addr->Prop}:∀{k:Nat} {ys:List V} {hh:List (List Str)},jJ X no k ys hh->DVs K X ys (QD k hh)
 | _,[],[],_=>.nil
 | _,_::_,_::_,⟨⟨tp,lc,e,b,c,_⟩,r⟩=>by
   rw[e]
   exact .cons (.tup (.of b) (.cons (.int _) (.cons (uW c) .nil))) r.dv
 | _,[],_::_,h=>h.elim
 | _,_::_,[],h=>h.elim
def yn (dO:PyData) (x:Nat×Str) (du:PyData):Prop:=(dO=.str (Str.ofString "truth")/\x.1 < 2/\du=.tuple [.bool (u4 x),.str x.2])\/(¬(dO=.str (Str.ofString "truth")/\x.1 < 2)/\du=dO)
theorem yn.uniq {dO:PyData} {x:Nat×Str} {du du':PyData} (h:yn dO x du) (h':yn dO x du'):du=du':=by
 rcases h with ⟨a,b,rfl⟩ | ⟨n,rfl⟩
 . rcases h' with ⟨_,_,rfl⟩ | ⟨n,_⟩
   . rfl
   . exact absurd ⟨a,b⟩ n
 . rcases h' with ⟨a,b,_⟩ | ⟨_,rfl⟩
   . exact absurd ⟨a,b⟩ n
   . rfl
def U7 (N:Nm) (rs:jK) (most:Nat) (hs:List Str) (ms:List (Nat×Str)):Prop:=jV rs (qX hs ms) (qX hs ms).length≠[]/\ms.length < most/\N.o=(ms.length:Int)
def Q4 (rs:jK) (hs:List Str) (ms:List (Nat×Str)):Str:=if (jV rs (qX hs ms) (qX hs ms).length).isEmpty=true then (if ms.length % 2=0 then Str.ofString "second" else Str.ofString "first") else Str.ofString "open"
def GQ (N:Nm) (rs:jK) (most:Nat) (hs:List Str) (ms:List (Nat×Str)) (d:PyData):Prop:=
 (U7 N rs most hs ms/\∃x du,Wg N rs (qX hs ms) ms.length=some x/\yn N.d x du/\d=.list [.list [.str (Str.ofString "no move"),du],.list (QD 0 (pre hs ms++[qX hs ms]))])\/
 (¬U7 N rs most hs ms/\d=.list [.list [.str (Str.ofString "played"),dM ms,.str (Q4 rs hs ms)],.list (QD 0 (pre hs ms))])
theorem GQ.uniq {N:Nm} {rs:jK} {most:Nat} {hs:List Str} {ms:List (Nat×Str)} {d d':PyData} (h:GQ N rs most hs ms d) (h':GQ N rs most hs ms d'):d=d':=by
 rcases h with ⟨o,x,du,e,od,rfl⟩ | ⟨n,rfl⟩
 . rcases h' with ⟨_,x',du',e',od',rfl⟩ | ⟨n,_⟩
   . obtain rfl:x=x':=Option.some.inj (e.symm.trans e')
     rw[od.uniq od']
   . exact absurd o n
 . rcases h' with ⟨o,_⟩ | ⟨_,rfl⟩
   . exact absurd o n
   . rfl
def U6 (N:Nm) (rs:jK) (most:Nat) (hs:List Str) (d:PyData):Prop:=∃ms,zb N rs most hs ms 0/\Gp N rs most (qX hs ms) ms.length/\GQ N rs most hs ms d
theorem U6.uniq {N:Nm} {rs:jK} {most:Nat} {hs:List Str} {d d':PyData} (h:U6 N rs most hs d) (h':U6 N rs most hs d'):d=d':=by
 obtain⟨ms,f,s,r⟩:=h
 obtain⟨ms',f',s',r'⟩:=h'
 rw[<-Nat.zero_add ms.length]at s
 rw[<-Nat.zero_add ms'.length]at s'
 obtain rfl:=f.uniq s f' s'
 exact r.uniq r'
end Rh
set_option Elab.async false
set_option linter.all false
set_option maxRecDepth 100000
set_option maxHeartbeats 4000000
namespace Rh
open PySem L2 PyProof.Rows
abbrev yY:Stmt:=top 47
structure zZ (H:Hp) (ln d0 d1:Addr) (N:Nm) (a0 a1:Int) (v:V):Prop where
 at_:H ln=some (.lst [.ref d0,.ref d1])
 n0:H d0=some (.dK (jo N.b0 N.m0 a0 N.o v))
 n1:H d1=some (.dK (jo N.b1 N.m1 a1 N.o v))
theorem zZ.mono {H H':Hp} {ln d0 d1:Addr} {N:Nm} {a0 a1:Int} {v:V} (h:zZ H ln d0 d1 N a0 a1 v) (s:Same H H'):zZ H' ln d0 d1 N a0 a1 v:=⟨s _ _ h.at_,s _ _ h.n0,s _ _ h.n1⟩
structure YT (N:Nm):Prop where
 b0:0<=N.b0/\N.b0<=1000
 b1:0<=N.b1/\N.b1<=1000
 sh:PySem.SeqAt.shaped N.d=true
theorem YT.b {N:Nm} (h:YT N) (k:Nat):0<=N.b k/\N.b k<=1000:=by
 unfold Nm.b
 split
 . exact h.b0
 . exact h.b1
theorem zZ.turn {H:Hp} {ln d0 d1:Addr} {N:Nm} {a0 a1:Int} {v:V} (h:zZ H ln d0 d1 N a0 a1 v) (k:Nat):∃dn a,Z9 [V.ref d0,.ref d1] ((k:Int) % 2)=some (.ref dn)/\H dn=some (.dK (jo (N.b k) (N.m k) a N.o v)):=by
 unfold Nm.b Nm.m
 rcases Nat.mod_two_eq_zero_or_one k with e | e
 . have:((k:Int) % 2)=0:=by omega
   rw[this,if_pos e,if_pos e]
   exact⟨d0,a0,rfl,h.n0⟩
 . have:((k:Int) % 2)=1:=by omega
   rw[this,if_neg (by omega),if_neg (by omega)]
   exact⟨d1,a1,rfl,h.n1⟩
theorem za {X:Hp} {no:Addr->Prop} {e:Addr} {xs:List V} {o:HO} {k:Nat} {ys:List V} {hh:List (List Str)} (he:X e=some (.lst xs)) (hn:no e) (h:jJ X no k ys hh):jJ (upd X e o) no k ys hh:=h.mono λb ob hb z=>by
 rw[qg (λw=>?_)]
 . exact hb
 . rw[w]at hb z
   rcases z with ⟨ys,rfl⟩ | ⟨_,z⟩
   . rw[he]at hb;cases hb
   . exact z hn
theorem jM {X X':Hp} {no:Addr->Prop} {k:Nat} {ys:List V} {hh:List (List Str)} (h:jJ X no k ys hh) (s:Same X X'):jJ X' no k ys hh:=h.mono λb ob hb _=>s _ _ hb
theorem W7.dv {K:PySem.W.Frag} {H H0:Hp} {v u:V} {dO:PyData} {x:Nat×Str} (h:W7 H v dO x u) (dv:DV K H0 v dO) (s:JB H0 H):∃du,yn dO x du/\DV K H u du:=by
 rcases h with ⟨a,b,p,rfl,hp⟩ | ⟨n,rfl⟩
 . exact⟨_,.inl ⟨a,b,rfl⟩,.tup (.of hp) (.cons (.bl _) (.cons (.str _) .nil))⟩
 . exact⟨dO,.inr ⟨n,rfl⟩,jX s dv⟩
def wp (K:PySem.W.Frag):Sp:=λvs H Q _=>∃(l h ln d0 d1:Addr) (ps:List Addr) (rs:jK) (hs:List Str) (N:Nm) (a0 a1:Int) (v:V) (most:Nat),vs=[.ref l,.ref h,.ref ln,.int (most:Nat)]/\jy H l ps rs/\jH H h rs hs/\zZ H ln d0 d1 N a0 a1 v/\YT N/\DV K H v N.d/\most<=100/\
 ∀H' R d,Same H H'->DV K H' (.ref R) d->U6 N rs most hs d->Q (.ref R) H'
section
variable {P:Program} {w:World} {K:PySem.W.Frag} {mg:Str->Option Value} {base:Heap}
abbrev RF:List Str:=["_law_rows_here","_law_heap_here","_law_numbers_here","_law_most","_law_here","_law_moves_here","_law_asked","_law_mine","_law_move","_law_ending"]
abbrev xg:List Str:=["_law_rows_here","_law_heap_here","_law_numbers_here","_law_most"]
theorem ZK:qA RF xg (qi yY):=⟨rfl,rfl,rfl,by decide+kernel,rfl,by decide+kernel,by decide+kernel⟩
theorem um {f fM fC:Addr} {fd fdM fdC:FuncData} (F:Qa K "_law_due" "_law_due" yY f fd) (B:JF mg) (G:Qi mg) (T:Qh K mg) (hdi:mg "dict"=none) (hM:jC K mg "_law_moves" Jl wZ fM fdM) (hC:jC K mg "_law_choice" Qw va fC fdC):qp P w K mg base q5 3 f fd xg (wp K):=by
 have GMv:qp P w K mg base q5 1 fM fdM wZ zf:=Yu hM.fn T hdi
 have GC:qp P w K mg base q5 2 fC fdC va (QH K):=Yw hC.fn B T hdi hM
 refine F.okJ ZK (λvs H Q E h=>?_) (λcdv A outer s H vs Q E hr h=>?_)
 . obtain⟨l,h',ln,d0,d1,ps,rs,hs,N,a0,a1,v,most,rfl,_⟩:=h
   rfl
 . obtain⟨l,h',ln,d0,d1,ps,rs,hs,N,a0,a1,v,most,rfl,g,hh,nu,nok,dv,m100,q⟩:=h
   have hu:=JN hr
   have hu0:=hr.units0
   have r1:qY 1 _:=hr.mono (by decide)
   refine⟨_,qh (qt (i:=4) ZK.nd rfl (Or.inl rfl) (qR qT (by rfl) G.lst boot_list (qb (jv 1) qe)))
     (qh (qt (i:=5) ZK.nd rfl (Or.inl rfl) (qO qe))
     (qh (qt (i:=6) ZK.nd rfl (Or.inl rfl) (qO qe))
     (Xd (zI PassesOwn.never (JW.pt (jR (qv (xi hu0) (qP hM GMv r1 (by rfl) (qb (jv 0) (qb (jv 4) qe))) (qO qe) (qy _)) (jI (qv j3 (qw qz (by rfl) B.len boot_len (qb (jv 5) qe)) (jv 3) (qy _)))))
       (qh (qt (i:=7) ZK.nd rfl (Or.inl rfl) (qM jQ (qw qz (by rfl) B.len boot_len (qb (jv 5) qe)) qj))
       (qh (qV (Q0 PySem.F.plainAttrs_list PySem.F.slot_list_append PySem.F.type_list_append ju (jv 6) (qb (jl (qb (jv 7) (qb (qR qT (by rfl) G.lst boot_list (qb (jv 4) qe)) qe))) qe)))
       (qh (qt (i:=8) ZK.nd rfl (Or.inl rfl) (qP hC GC hr (by rfl) (qb (jv 0) (qb (jv 4) (qb (qW jg (jv 2) (jv 7) (λ_ _=>rfl)) (qb (qw qz (by rfl) B.len boot_len (qb (jv 5) qe)) qe))))))
       (qh (jd (qv j6 (jm hu (qW jg (jv 2) (jv 7) (λ_ _=>rfl)) qx (λ_ _=>rfl)) (qw qz (by rfl) B.len boot_len (qb (jv 5) qe)) (qy _)) (ql (qH (qO (qb (qO (qb qx (qb (jv 8) qe))) (qb (jv 6) qe))))) qD)
       (qh (Xe (qW jG (jv 8) qj (λ_ _=>rfl)) (kI (jv 4) (qW jG (jv 8) qj (λ_ _=>rfl)) XG))
       (ql (qV (Q0 PySem.F.plainAttrs_list PySem.F.slot_list_append PySem.F.type_list_append ju (jv 5) (qb (jv 8) qe))))))))))
     (qh (qt (i:=9) ZK.nd rfl (Or.inl rfl) qx)
     (Xd (jd (qv (Y6 hr.units) (qP hM GMv r1 (by rfl) (qb (jv 0) (qb (jv 4) qe))) (qO qe) (qy _)) (ql (qt (i:=9) ZK.nd rfl (Or.inl rfl) (qW jg (qO (qb qx (qb qx qe))) (qM jQ (qw qz (by rfl) B.len boot_len (qb (jv 5) qe)) qj) (λ_ _=>rfl)))) qD)
     (ql (qH (qO (qb (qO (qb qx (qb (jv 5) (qb (jv 9) qe)))) (qb (jv 6) qe)))))))))),?_⟩
   have good:=g.good
   have oks:QE rs hs:=⟨hh.le,hh.in_⟩
   refine⟨_,rfl,h',_,rfl,.inl (.of hh.at_),λhe fhe=>?_⟩
   have u1:=qk (o:=HO.lst (hs.map V.str)) fhe
   have y1:upd H he (.lst (hs.map V.str)) he=some (.lst (hs.map V.str)):=qd
   generalize upd H he (.lst (hs.map V.str))=H1 at u1 y1
   refine⟨by show 0<=sizeLine;decide,λlm flm=>?_⟩
   have u2:=qk (o:=HO.lst []) flm
   have y2:upd H1 lm (.lst []) lm=some (.lst []):=qd
   have flm0:H lm=none:=by
     cases z:H lm with
     | none=>rfl
     | some o=>rw[u1 _ _ z]at flm;cases flm
   have nlm:lm≠he:=λz=>by rw[z,y1]at flm;cases flm
   generalize upd H1 lm (.lst [])=H2 at u2 y2
   refine⟨by show 0<=sizeLine;decide,λla fla=>?_⟩
   have u3:=qk (o:=HO.lst []) fla
   have y3:upd H2 la (.lst []) la=some (.lst []):=qd
   have u12:=u1.trans u2
   have fla0:H la=none:=by
     cases z:H la with
     | none=>rfl
     | some o=>rw[u12 _ _ z]at fla;cases fla
   have nla:la≠he:=λz=>by rw[z,u2 _ _ y1]at fla;cases fla
   have nlam:la≠lm:=λz=>by rw[z,y2]at fla;cases fla
   generalize upd H2 la (.lst [])=H3 at u3 y3
   have u13:=u12.trans u3
   refine⟨λσ' X=>∃(ms:List (Nat×Str)) (qs:List Addr) (ys:List V) (v7 v8 v9:Option V),σ'=[some (.ref l),some (.ref h'),some (.ref ln),some (.int (most:Nat)),some (.ref he),some (.ref lm),some (.ref la),v7,v8,v9]/\Same H X/\X he=some (.lst ((qX hs ms).map V.str))/\X lm=some (.lst (qs.map V.ref))/\jf X qs ms/\X la=some (.lst ys)/\jJ X (λe=>e=he\/e=lm\/e=la) 0 ys (pre hs ms)/\zb N rs most hs ms 0/\(jV rs (qX hs ms) (qX hs ms).length=[]\/most<=ms.length),?_,?_⟩
   refine⟨λm σ' X=>∃(ms:List (Nat×Str)) (qs:List Addr) (ys:List V) (v7 v8 v9:Option V),m=most - ms.length/\σ'=[some (.ref l),some (.ref h'),some (.ref ln),some (.int (most:Nat)),some (.ref he),some (.ref lm),some (.ref la),v7,v8,v9]/\Same H X/\X he=some (.lst ((qX hs ms).map V.str))/\X lm=some (.lst (qs.map V.ref))/\jf X qs ms/\X la=some (.lst ys)/\jJ X (λe=>e=he\/e=lm\/e=la) 0 ys (pre hs ms)/\zb N rs most hs ms 0,
     ⟨most,[],[],[],none,none,none,rfl,rfl,u13,(u2.trans u3) _ _ y1,u3 _ _ y2,jf.nil _,y3,trivial,trivial⟩,?_⟩
   rintro m σ' X ⟨ms,qs,ys,v7,v8,v9,rfl,rfl,sX,hX,hlm,mv,hla,ask,fol⟩
   have lq:=mv.1
   have fle:=fol.le (Nat.zero_le _)
   rw[Nat.zero_add]at fle
   have oki:=oks.last good fol.wk
   have lys:=ask.len
   rw[Jm]at lys
   generalize hL:qX hs ms=hk at hX oki
   refine⟨_,rfl,_,rfl,l,he,ps,rs,hk,rfl,g.mono sX,⟨hX,oki.1,oki.2⟩,λX2 lf qf s2 nlf hlf mvf=>?_⟩
   have ml:=Jp good g.le oki.2 hk.length (Nat.le_refl _)
   have o8:=oki.1
   refine⟨by show 0<=sizeLine;decide,λe0 he0=>⟨lf,e0,_,rfl,rfl,.of ((qk he0) _ _ hlf),.of qd,_,rfl,?_⟩⟩
   have s3:=qk (o:=HO.lst []) he0
   generalize upd X2 e0 (.lst [])=X3 at s3
   have s23:=s2.trans s3
   have sX3:=sX.trans s23
   have ask3:=jM ask s23
   have hX3:=s23 _ _ hX
   have hlm3:=s23 _ _ hlm
   have hla3:=s23 _ _ hla
   have mv3:=mv.mono s23
   have emq:(qf.map V.ref).isEmpty=(jV rs hk hk.length).isEmpty:=by
     have:=mvf.1
     cases qf with
     | nil=>cases z:jV rs hk hk.length with
       | nil=>rfl
       | cons a b=>rw[z]at this;cases this
     | cons p qf=>cases z:jV rs hk hk.length with
       | nil=>rw[z]at this;cases this
       | cons a b=>rfl
   rw[emq]
   cases emp:(jV rs hk hk.length).isEmpty with
   | true=>
     refine jk rfl (jP ⟨ms,qs,ys,v7,v8,v9,rfl,sX3,by rw[hL];exact hX3,hlm3,mv3,hla3,ask3,fol,.inl ?_⟩)
     rw[hL]
     exact List.isEmpty_iff.mp emp
   | false=>
     refine jr rfl ⟨_,rfl,lm,_,rfl,.inl (.of hlm3),_,rfl,_,_,rfl,rfl,_,rfl,?_⟩
     by_cases c:ms.length < most
     . refine jr (decide_eq_true (by rw[List.length_map];omega)) ⟨λσ' X=>∃(ms':List (Nat×Str)) (qs:List Addr) (ys:List V) (v7 v8 v9:Option V),most - ms'.length < most - ms.length/\σ'=[some (.ref l),some (.ref h'),some (.ref ln),some (.int (most:Nat)),some (.ref he),some (.ref lm),some (.ref la),v7,v8,v9]/\Same H X/\X he=some (.lst ((qX hs ms').map V.str))/\X lm=some (.lst (qs.map V.ref))/\jf X qs ms'/\X la=some (.lst ys)/\jJ X (λe=>e=he\/e=lm\/e=la) 0 ys (pre hs ms')/\zb N rs most hs ms' 0,λσ' X ⟨ms',qs,ys,v7,v8,v9,lt,z⟩=>⟨most - ms'.length,lt,ms',qs,ys,v7,v8,v9,rfl,z⟩,?_⟩
       refine⟨_,rfl,lm,_,rfl,.inl (.of hlm3),_,_,rfl,rfl,(by show (0:Int) < 2;decide),?_⟩
       rw[List.length_map,lq]
       refine⟨_,rfl,.inl ⟨rfl,_,.of hla3⟩,_,rfl,_,rfl,he,_,rfl,.inl (.of hX3),λlc flc=>?_⟩
       have s4:=qk (o:=HO.lst (hk.map V.str)) flc
       have y4:upd X3 lc (.lst (hk.map V.str)) lc=some (.lst (hk.map V.str)):=qd
       have nlc:¬(lc=he\/lc=lm\/lc=la):=λz=>by
         rcases z with z | z | z
         . rw[z,hX3]at flc;cases flc
         . rw[z,hlm3]at flc;cases flc
         . rw[z,hla3]at flc;cases flc
       generalize upd X3 lc (.lst (hk.map V.str))=X4 at s4 y4
       refine⟨by show 2<=sizeLine;decide,λtp ftp=>?_⟩
       have s5:=qk (o:=HO.tup [V.int ((ms.length:Int) % 2),.ref lc]) ftp
       have y5:upd X4 tp (.tup [V.int ((ms.length:Int) % 2),.ref lc]) tp=some (.tup [V.int ((ms.length:Int) % 2),.ref lc]):=qd
       generalize upd X4 tp (.tup [V.int ((ms.length:Int) % 2),.ref lc])=X5 at s5 y5
       have s35:=s4.trans s5
       have hla5:=s35 _ _ hla3
       refine⟨la,_,_,rfl,rfl,hla5,qu (by omega),?_⟩
       have sX6:Same H (upd X5 la (.lst (ys++[V.ref tp]))):=λb o hb=>by
         rw[qg (qm hb fla0)]
         exact s35 _ _ (sX3 _ _ hb)
       have ask6:jJ (upd X5 la (.lst (ys++[V.ref tp]))) (λe=>e=he\/e=lm\/e=la) 0 (ys++[V.ref tp]) (pre hs ms++[hk]):=za hla5 (.inr (.inr rfl)) ((jM ask3 s35).snoc (s5 _ _ y4) nlc (by rw[Nat.zero_add,Jm,show ((ms.length % 2:Nat):Int)=(ms.length:Int) % 2 by omega];exact y5))
       have hla6:upd X5 la (.lst (ys++[V.ref tp])) la=some (.lst (ys++[V.ref tp])):=qd
       have hX6:upd X5 la (.lst (ys++[V.ref tp])) he=some (.lst (hk.map V.str)):=by rw[qg (Ne.symm nla)];exact s35 _ _ hX3
       have hlm6:upd X5 la (.lst (ys++[V.ref tp])) lm=some (.lst (qs.map V.ref)):=by rw[qg (Ne.symm nlam)];exact s35 _ _ hlm3
       have mv6:jf (upd X5 la (.lst (ys++[V.ref tp]))) qs ms:=(mv3.mono s35).lst hla5
       generalize upd X5 la (.lst (ys++[V.ref tp]))=X6 at sX6 ask6 hla6 hX6 hlm6 mv6
       have nu6:=nu.mono sX6
       obtain⟨dn,an,eat,hdn⟩:=nu6.turn ms.length
       have nb:=nok.b ms.length
       have ne:jV rs hk hk.length≠[]:=λz=>by rw[z]at emp;cases emp
       obtain⟨x,ex⟩:=Wf (N.b ms.length) (N.m ms.length) (ms.length:Int) ne
       have exA:Wg N rs (qX hs ms) ms.length=some x:=by rw[hL];exact ex
       refine⟨_,rfl,_,rfl,_,rfl,_,rfl,ln,_,_,_,rfl,rfl,.of nu6.at_,eat,_,rfl,lm,_,rfl,.inl (.of hlm6),?_⟩
       rw[List.length_map,lq]
       refine⟨l,he,dn,ps,rs,hk,N.b ms.length,N.m ms.length,an,N.o,_,v,N.d,rfl,g.mono sX6,⟨hX6,oki.1,oki.2⟩,hdn,nb.1,nb.2,by omega,by omega,jX sX6.keep dv,nok.sh,.inr ⟨x,ex,?_⟩⟩
       rcases Classical.em (N.o=(ms.length:Int)) with eo | no
       . refine .inl ⟨eo,λX7 u s7 od=>?_⟩
         have sX7:=sX6.trans s7
         obtain⟨du,odd,dvu⟩:=od.dv dv sX7.keep
         refine⟨_,rfl,_,rfl,ln,_,_,_,rfl,rfl,.of (nu6.mono s7).at_,eat,dn,_,rfl,ZD (s7 _ _ hdn) uZ,_,rfl,lm,_,rfl,.inl (.of (s7 _ _ hlm6)),rfl,_,rfl,jr (decide_eq_true (by rw[List.length_map,lq,eo])) ?_⟩
         refine⟨_,rfl,by show 2<=sizeLine;decide,λA1 fA=>⟨_,rfl,by show 2<=sizeLine;decide,λR fR=>?_⟩⟩
         have s8:=qk (o:=HO.lst [V.str (Str.ofString "no move"),u]) fA
         have y8:upd X7 A1 (.lst [V.str (Str.ofString "no move"),u]) A1=some (.lst [V.str (Str.ofString "no move"),u]):=qd
         generalize upd X7 A1 (.lst [V.str (Str.ofString "no move"),u])=X8 at s8 y8 fR
         have s9:=qk (o:=HO.lst [V.ref A1,.ref la]) fR
         have s79:=s8.trans s9
         refine q _ R _ (sX7.trans s79) (.lst (.of qd) (.cons (.lst (.of (s9 _ _ y8)) (.cons (.str _) (.cons (jX s79.keep dvu) .nil))) (.cons (.lst (.of ((s7.trans s79) _ _ hla6)) (jM ask6 (s7.trans s79)).dv) .nil))) ⟨ms,fol,.inr (.inr eo),.inl ⟨⟨by rw[hL];exact ne,c,eo⟩,x,du,exA,odd,by rw[hL]⟩⟩
       . refine .inr ⟨no,λX7 p s7 hp7=>?_⟩
         have sX7:=sX6.trans s7
         refine⟨_,rfl,_,rfl,ln,_,_,_,rfl,rfl,.of (nu6.mono s7).at_,eat,dn,_,rfl,ZD (s7 _ _ hdn) uZ,_,rfl,lm,_,rfl,.inl (.of (s7 _ _ hlm6)),rfl,_,rfl,jk (decide_eq_false λz=>no (by rw[List.length_map,lq]at z;exact V.int.inj z)) ?_⟩
         have x1:=(Qm (Ju ex)).1
         have hX7:=s7 _ _ hX6
         refine⟨_,rfl,p,_,1,_,rfl,rfl,.of hp7,rfl,_,rfl,_,rfl,p,_,0,_,rfl,rfl,.of hp7,rfl,he,_,_,x.1,rfl,rfl,hX7,?_,?_⟩
         . unfold yr
           rw[List.length_map]
           simp [x1]
         have e8:(hk.map V.str).set x.1 (V.str x.2)=(hk.set x.1 x.2).map V.str:=(List.map_set ..).symm
         rw[e8]
         have hlm7:=s7 _ _ hlm6
         have hla7:=s7 _ _ hla6
         have y8:upd X7 he (.lst ((hk.set x.1 x.2).map V.str)) he=some (.lst ((hk.set x.1 x.2).map V.str)):=qd
         have lm8:upd X7 he (.lst ((hk.set x.1 x.2).map V.str)) lm=some (.lst (qs.map V.ref)):=by rw[qg nlm];exact hlm7
         have la8:upd X7 he (.lst ((hk.set x.1 x.2).map V.str)) la=some (.lst (ys++[V.ref tp])):=by rw[qg nla];exact hla7
         have mv8:jf (upd X7 he (.lst ((hk.set x.1 x.2).map V.str))) (qs++[p]) (ms++[x]):=((mv6.mono s7).app (.one hp7)).lst hX7
         have ask8:jJ (upd X7 he (.lst ((hk.set x.1 x.2).map V.str))) (λe=>e=he\/e=lm\/e=la) 0 (ys++[V.ref tp]) (pre hs ms++[hk]):=za hX7 (.inl rfl) (jM ask6 s7)
         have s8:Same H (upd X7 he (.lst ((hk.set x.1 x.2).map V.str))):=λb o hb=>by
           rw[qg (qm hb fhe)]
           exact sX7 _ _ hb
         generalize upd X7 he (.lst ((hk.set x.1 x.2).map V.str))=X8 at y8 lm8 la8 mv8 ask8 s8
         refine⟨_,rfl,.inl ⟨rfl,_,.of lm8⟩,_,rfl,lm,_,_,rfl,rfl,lm8,by rw[List.length_map,lq];exact qu (by omega),?_⟩
         refine⟨ms++[x],qs++[p],ys++[V.ref tp],_,_,_,by rw[List.length_append,List.length_singleton];omega,rfl,λb o hb=>?_,?_,?_,mv8.lst lm8,?_,?_,?_⟩
         . rw[qg (qm hb flm0)]
           exact s8 _ _ hb
         . rw[qg (Ne.symm nlm),YA,hL]
           exact y8
         . rw[qd,List.map_append]
           rfl
         . rw[qg nlam]
           exact la8
         . rw[VD,hL]
           exact za lm8 (.inr (.inl rfl)) ask8
         . exact fol.mk (by rw[Nat.zero_add];exact exA) (by rw[Nat.zero_add];exact no) (by rw[Nat.zero_add];exact c)
     . exact jk (decide_eq_false (by rw[List.length_map];omega)) ⟨ms,qs,ys,v7,v8,v9,rfl,sX3,by rw[hL];exact hX3,hlm3,mv3,hla3,ask3,fol,.inr (by omega)⟩
   rintro σ' X ⟨ms,qs,ys,v7,v8,v9,rfl,sX,hX,hlm,mv,hla,ask,fol,stop⟩
   have lq:=mv.1
   have oki:=oks.last good fol.wk
   generalize hL:qX hs ms=hk at hX oki stop
   have ml:=Jp good g.le oki.2 hk.length (Nat.le_refl _)
   have o8:=oki.1
   have md:W9 K (jV rs hk hk.length):=VI (λx hx=>⟨by have:=(Qm hx).1;omega,Qr good oki.2 x hx⟩) (by omega)
   refine⟨λσ' Y=>σ'=[some (.ref l),some (.ref h'),some (.ref ln),some (.int (most:Nat)),some (.ref he),some (.ref lm),some (.ref la),v7,v8,some (.str (Q4 rs hs ms))]/\Same X Y,?_,?_⟩
   . refine⟨_,rfl,_,rfl,l,he,ps,rs,hk,rfl,g.mono sX,⟨hX,oki.1,oki.2⟩,λX2 lf qf s2 nlf hlf mvf=>⟨by show 0<=sizeLine;decide,λe0 he0=>?_⟩⟩
     have s3:=qk (o:=HO.lst []) he0
     have y3:upd X2 e0 (.lst []) e0=some (.lst []):=qd
     generalize upd X2 e0 (.lst [])=X3 at s3 y3
     have s23:=s2.trans s3
     refine⟨dM (jV rs hk hk.length),.list [],U9 (s3 _ _ hlf) (mvf.mono s3),.lst (.of y3) .nil,md.sp,wq,_,rfl,?_⟩
     rw[Wb]
     unfold Q4
     rw[hL]
     cases emp:(jV rs hk hk.length).isEmpty with
     | true=>
       refine jr rfl ⟨by show 2<=sizeLine;decide,λlz flz=>?_⟩
       have s4:=qk (o:=HO.lst [V.str (Str.ofString "second"),.str (Str.ofString "first")]) flz
       refine⟨_,rfl,lm,_,rfl,.inl (.of ((s23.trans s4) _ _ hlm)),_,_,rfl,rfl,(by show (0:Int) < 2;decide),lz,_,_,(.str (if ms.length % 2=0 then Str.ofString "second" else Str.ofString "first")),rfl,rfl,.of qd,?_,rfl,s23.trans s4⟩
       rw[List.length_map,lq]
       rcases Nat.mod_two_eq_zero_or_one ms.length with e | e
       . have:((ms.length:Int) % 2)=0:=by omega
         show Z9 [V.str (Str.ofString "second"),.str (Str.ofString "first")] ((ms.length:Int) % 2)=_
         rw[this,if_pos e]
         rfl
       . have:((ms.length:Int) % 2)=1:=by omega
         show Z9 [V.str (Str.ofString "second"),.str (Str.ofString "first")] ((ms.length:Int) % 2)=_
         rw[this,if_neg (by omega)]
         rfl
     | false=>exact jk rfl ⟨rfl,s23⟩
   . rintro σ' Y ⟨rfl,sY⟩
     refine⟨_,rfl,_,rfl,by show 3<=sizeLine;decide,λA1 fA=>⟨_,rfl,by show 2<=sizeLine;decide,λR fR=>?_⟩⟩
     have s8:=qk (o:=HO.lst [V.str (Str.ofString "played"),.ref lm,.str (Q4 rs hs ms)]) fA
     have y8:upd Y A1 (.lst [V.str (Str.ofString "played"),.ref lm,.str (Q4 rs hs ms)]) A1=some (.lst [V.str (Str.ofString "played"),.ref lm,.str (Q4 rs hs ms)]):=qd
     generalize upd Y A1 (.lst [V.str (Str.ofString "played"),.ref lm,.str (Q4 rs hs ms)])=X8 at s8 y8 fR
     have s9:=qk (o:=HO.lst [V.ref A1,.ref la]) fR
     have sA:=sY.trans (s8.trans s9)
     refine q _ R _ (sX.trans sA) (.lst (.of qd) (.cons (.lst (.of (s9 _ _ y8)) (.cons (.str _) (.cons (U9 (sA _ _ hlm) (mv.mono sA)) (.cons (.str _) .nil)))) (.cons (.lst (.of (sA _ _ hla)) (jM ask sA).dv) .nil))) ⟨ms,fol,?_,.inr ⟨?_,rfl⟩⟩
     . rw[hL]
       rcases stop with z | z
       . exact .inl z
       . exact .inr (.inl z)
     . rintro⟨z1,z2,_⟩
       rw[hL]at z1
       rcases stop with z | z
       . exact z1 z
       . omega
end
end Rh
set_option Elab.async false
set_option linter.all false
set_option maxRecDepth 100000
set_option maxHeartbeats 4000000
namespace Rh
open PySem L2 PyProof.Rows
theorem Re {σ:L2.St} {X:Hp} {Q:VK} {b:Bool} {f0 f1 fi:Addr} (h2:σ[2]?=some (some (V.ref f0))) (h3:σ[3]?=some (some (V.ref f1))) (hb:b=true->fi=f0) (hb':b=false->fi=f1) (h:Q (.ref fi) X):if b=true then jt 2 σ X Q else jt 3 σ X Q:=by
 cases b with
 | true=>rw[hb rfl]at h;exact Q3 ⟨_,h2,h⟩
 | false=>rw[hb' rfl]at h;exact jP ⟨_,h3,h⟩
def wG (n:Nat):Str:=if n % 2=0 then Str.ofString "second" else Str.ofString "first"
def vo:Sp:=λvs H Q _=>∃n:Nat,vs=[.int (n:Nat)]/\Q (.str (wG n)) H
def R9 (K:PySem.W.Frag) (PT:Addr) (f:Addr) (fd:FuncData) (sp:Sp):Prop:=(∃(doc pm ctv:Value) (c':Addr) (cl:List (Str×Addr)),fd=PySem.W.fnX "_law_player_here" Zf (jA Ja) (ja Ja) (qi Ja) cl .none .none doc pm none (.ref c') ctv)/\sp=Kt K PT f fd
def yO (K:PySem.W.Frag) (CG CM PT:Addr):Sp:=λvs H Q E=>∃(g h f0 f1 la d0 d1 l:Addr) (fd0 fd1:FuncData) (ps:List Addr) (rs:jK) (hs:List Str) (N:Nm) (v:V) (most:Nat) (H0:Hp),vs=[.ref g,.ref h,.ref f0,.ref f1,.int (most:Nat)]/\Same H0 H/\H0 la=none/\H0 d0=none/\H0 d1=none/\d0≠d1/\Qt CG H0 g rs/\jy H0 l ps rs/\jH H0 h rs hs/\YT N/\DV K H0 v N.d/\(∀hk,QE rs hk->Zs K H0 (jV rs hk hk.length) v)/\most<=100/\
 H la=some (.lst [])/\H d0=some (.dK (jo N.b0 N.m0 0 N.o v))/\H d1=some (.dK (jo N.b1 N.m1 0 N.o v))/\vb H PT f0 "_law_player_here" Zf Ja fd0 (Ke la d0 l 0)/\vb H PT f1 "_law_player_here" Zf Ja fd1 (Ke la d1 l 1)/\
 (∀H' t mo ms qs ys,Same H0 H'->H' t=some (.tup [.ref mo,.str (Q4 rs hs ms)])->H' mo=some (.lst (qs.map V.ref))->jf H' qs ms->H' la=some (.lst ys)->DVs K H' ys (QD 0 (pre hs ms))->zb N rs most hs ms 0->Gp N rs most (qX hs ms) ms.length->¬U7 N rs most hs ms->Q (.ref t) H')/\
 (∀H1 dx ms x u ys,Same H0 H1->H1 dx=some (.xd [(Str.ofString "found",u)])->H1 la=some (.lst ys)->DVs K H1 ys (QD 0 (pre hs ms++[qX hs ms]))->zb N rs most hs ms 0->U7 N rs most hs ms->Wg N rs (qX hs ms) ms.length=some x->W7 H1 v N.d x u->E (.ref CM) (some dx) H1)
section
variable {P:Program} {w:World} {K:PySem.W.Frag} {mg:Str->Option Value} {base:Heap}
theorem Kw:qA ["made"] ["made"] (qi Uj):=⟨rfl,rfl,rfl,by decide+kernel,rfl,by decide+kernel,by decide+kernel⟩
theorem ka {f:Addr} {fd:FuncData} (F:Qa K "who_won" "who_won" Uj f fd):qp P w K mg base q5 1 f fd ["made"] vo:=by
 refine F.okJ Kw (λvs H Q E h=>?_) (λcdv A outer s H vs Q E hr h=>?_)
 . obtain⟨n,rfl,_⟩:=h
   rfl
 . obtain⟨n,rfl,q⟩:=h
   refine⟨_,qh (jd (qv j6 (qM jQ (jv 0) qj) qj (qy _)) (ql (qH qx)) qD) (ql (qH qx)),?_⟩
   refine⟨_,rfl,_,_,rfl,rfl,(by show (0:Int) < 2;decide),rfl,_,rfl,?_⟩
   unfold wG at q
   rcases Nat.mod_two_eq_zero_or_one n with e | e
   . rw[if_pos e]at q
     exact jr (decide_eq_true (by show V.int ((n:Int) % 2)=V.int 0;rw[show (n:Int) % 2=0 by omega])) q
   . rw[if_neg (by omega)]at q
     exact jk (decide_eq_false λz=>by have z:V.int ((n:Int) % 2)=V.int 0:=z;have:=V.int.inj z;omega) q
theorem yf {PT fC:Addr} {fdC:FuncData} (G:Qi mg) (hC:jC K mg "_law_choice" Qw va fC fdC) (GC:qp P w K mg base q5 2 fC fdC va (QH K)):∀f fd sp,R9 K PT f fd sp->qp P w K mg base q5 3 f fd ["_law_heap_here"] sp/\jE K fd ["_law_heap_here"] []:=by
 rintro f fd sp ⟨⟨doc,pm,ctv,c',cl,rfl⟩,rfl⟩
 exact⟨uf G hC GC,.all λus hl=>by obtain⟨_,rfl⟩:=Zi hl;rfl⟩
abbrev nPd:List Str:=["ground","heap","first","second","most","now","moves","player","move"]
abbrev xc:List Str:=["ground","heap","first","second","most"]
theorem ZS:qA nPd xc (qi QQ):=⟨rfl,rfl,rfl,by decide+kernel,rfl,by decide+kernel,by decide+kernel⟩
abbrev Kk (K:PySem.W.Frag) (i:Nat):TE:=wc (λxs H Q=>∃p ys,xs=[V.ref p]/\(SqL K H p ys\/SqT K H p ys)/\Q (V.int ys.length) H) (jc (jt i) Qk)
abbrev G6 (K:PySem.W.Frag) (i:Nat):TE:=wc (λxs H Q=>∃p ys,xs=[V.ref p]/\(SqL K H p ys\/SqT K H p ys)/\∀l,H l=none->Q (.ref l) (upd H l (.lst ys))) (jc (jt i) Qk)
theorem Uz {f fH fQ fO fA fW fC fX CG D CM PT:Addr} {fd fdH fdQ fdO fdA fdW fdC fdX:FuncData} (F:Qa K "played" "played" QQ f fd) (B:JF mg) (G:Qi mg) (T:Qh K mg) (M:GM K mg CG) (Z:HM K mg) (hdi:mg "dict"=none) (hQ:jC K mg "need_place" Jb xB fQ fdQ) (hH:jC K mg "need_heap" JQ ["ground","heap"] fH fdH)
   (hO:jC K mg "is_over" Yp ["ground","heap"] fO fdO) (hA:jC K mg "after" JR yq fA fdA) (hW:jC K mg "who_won" Uj ["made"] fW fdW) (hC:jC K mg "_law_choice" Qw va fC fdC) (GC:qp P w K mg base q5 2 fC fdC va (QH K)) (xM:x4 K mg D "NoMove" "NoMove.__init__" Qv "found" CM fX fdX):qp P w K mg base (Jj P w) 7 f fd xc (yO K CG CM PT):=by
 have GH:qp P w K mg base q5 3 fH fdH ["ground","heap"] (Jk CG):=Jd hH.fn B G T M hQ Z.mt
 have GO:qp P w K mg base q5 5 fO fdO KQ (YV CG):=VG hO.fn B G T M Z
 have GA1:qp P w K mg base q5 6 fA fdA yq (J8 CG):=XR hA.fn B G T M Z
 have GA:qp P w K mg base (Jj P w) 6 fA fdA yq (λvs H Q E=>J8 CG vs H Q E\/zh K CG CM vs H Q E):=qp.or GA1.cx (UB hA.fn B G T M Z xM)
 have GW:qp P w K mg base q5 1 fW fdW ["made"] vo:=ka hW.fn
 refine F.okX ZS (λvs H Q E h=>?_) (λcdv A outer s H vs Q E hr h=>?_)
 . obtain⟨g,h',f0,f1,la,d0,d1,l,fd0,fd1,ps,rs,hs,N,v,most,H0,rfl,_⟩:=h
   rfl
 . obtain⟨g,h',f0,f1,la,d0,d1,l,fd0,fd1,ps,rs,hs,N,v,most,H0,rfl,s0,nla,nd0,yp,n01,gr,gl,hh,nok,dv,nomv,m100,hla,hd0,hd1,cl0,cl1,q,qE⟩:=h
   have r1:qY 1 _:=hr.mono (by decide)
   have r3:qY 3 _:=hr.mono (by decide)
   have r5:qY 5 _:=hr.mono (by decide)
   refine⟨_,qh (qV (qP hH GH r3 (by rfl) (qb (jv 0) (qb (jv 1) qe))))
     (qh (qt (i:=5) ZS.nd rfl (Or.inl rfl) (qR qT (by rfl) G.lst boot_list (qb (jv 1) qe)))
     (qh (qt (i:=6) ZS.nd rfl (Or.inl rfl) (qO qe))
     (Xd (xF (t:=vg (wJ (Vh (Xx (wz λi j=>.bl (decide (i < j))) (Kk K 6) (jt 4))) (Ki (tB (zd (YV CG) [] E0 (jc (jt 0) (jc (jt 5) Qk))))))
         (XC (Yc (tIf (Vh (Xx rEq (Xx (rI (λ_ j=>0 < j) λi j=>.int (i % j)) (Kk K 6) (tC (.int 2))) (tC (.int 0)))) (jt 2) (jt 3)) (Qs 7)) (XC (Yc (vk 7 (R9 K PT) (λ_=>E0) (jc (G6 K 5) Qk)) (Qs 8)) (XC (Yc (zd (λvs H Q E=>J8 CG vs H Q E\/zh K CG CM vs H Q E) [] E (jc (jt 0) (jc (jt 5) (jc (jt 8) Qk)))) (Qs 5)) (wb (Rc K "list" VC (jt 6) (jc (jt 8) Qk))))))) λpn W hO' hP' hR'=>
       zI hO' (JW.pt (jR (qv j3 (qw qz (by rfl) B.len boot_len (qb (jv 6) qe)) (jv 4) (qy _)) (jI (Qg (jS (qP hO GO r5 (by rfl) (qb (jv 0) (qb (jv 5) qe))))))))
         (qh (qt (i:=7) ZS.nd rfl (Or.inl rfl) (XX (qv j6 (qM jQ (qw qz (by rfl) B.len boot_len (qb (jv 6) qe)) qj) qj (qy _)) (jv 2) (jv 3)))
         (qh (qt (i:=8) ZS.nd rfl (Or.inl rfl) (XY (C:=R9 K PT) (x:="player") (i:=7) rfl (Or.inl rfl) (λf fd sp c=>⟨3,_,(yf G hC GC f fd sp c).1,r3,(yf (P:=P) (w:=w) (mg:=mg) (base:=base) G hC GC f fd sp c).2⟩) (jx.s Zg) (qb (qR qT (by rfl) G.lst boot_list (qb (jv 5) qe)) qe)))
         (qh (qt (i:=5) ZS.nd rfl (Or.inl rfl) (K9 hA GA hr hP' (by rfl) (qb (jv 0) (qb (jv 5) (qb (jv 8) qe)))))
         (ql (qV (Q0 PySem.F.plainAttrs_list PySem.F.slot_list_append PySem.F.type_list_append ju (jv 6) (qb (jv 8) qe))))))))
     (qh (jd (jS (qP hO GO r5 (by rfl) (qb (jv 0) (qb (jv 5) qe)))) (ql (qH (jl (qb (jv 6) (qb (qP hW GW r1 (by rfl) (qb (qw qz (by rfl) B.len boot_len (qb (jv 6) qe)) qe)) qe))))) qD)
     (ql (qH (jl (qb (jv 6) (qb qx qe))))))))),?_⟩
   have good:=gl.good
   have le14:=gl.le
   refine⟨_,rfl,_,rfl,g,h',rs,hs,rfl,gr.mono s0,hh.mono s0,λH1 s1=>?_⟩
   have s01:=s0.trans s1
   refine⟨_,rfl,h',_,rfl,.inl (.of (hh.mono s01).at_),λno hno=>⟨by show 0<=sizeLine;decide,λmo hmo=>?_⟩⟩
   have u2:=qk (o:=HO.lst (hs.map V.str)) hno
   have v2:upd H1 no (.lst (hs.map V.str)) no=some (.lst (hs.map V.str)):=qd
   have nol:no≠la:=λz=>by rw[z,s1 _ _ hla]at hno;cases hno
   generalize upd H1 no (.lst (hs.map V.str))=H2 at u2 v2 hmo
   have u3:=qk (o:=HO.lst []) hmo
   have v3:upd H2 mo (.lst []) mo=some (.lst []):=qd
   have f2:=s01.trans u2
   have fmo:H0 mo=none:=by
     cases z:H0 mo with
     | none=>rfl
     | some o=>rw[f2 _ _ z]at hmo;cases hmo
   have nml:mo≠la:=λz=>by rw[z,u2 _ _ (s1 _ _ hla)]at hmo;cases hmo
   have nmn:no≠mo:=λz=>by rw[<-z,v2]at hmo;cases hmo
   generalize upd H2 mo (.lst [])=H3 at u3 v3
   have s03:=f2.trans u3
   have s13:=(s1.trans u2).trans u3
   have oks:QE rs hs:=⟨hh.le,hh.in_⟩
   refine⟨λσ' X=>∃(ms:List (Nat×Str)) (qs:List Addr) (ys:List V) (nw:Addr) (v7 v8:Option V),σ'=[some (.ref g),some (.ref h'),some (.ref f0),some (.ref f1),some (.int (most:Nat)),some (.ref nw),some (.ref mo),v7,v8]/\Same H0 X/\(∀c o u,H c=some (.frz o u)->X c=some (.frz o u))/\X nw=some (.lst ((qX hs ms).map V.str))/\nw≠la/\nw≠mo/\X mo=some (.lst (qs.map V.ref))/\jf X qs ms/\X la=some (.lst ys)/\jJ X (λe=>e=la\/e=mo) 0 ys (pre hs ms)/\X d0=some (.dK (jo N.b0 N.m0 (((ms.length+1) / 2:Nat):Int) N.o v))/\X d1=some (.dK (jo N.b1 N.m1 ((ms.length / 2:Nat):Int) N.o v))/\zb N rs most hs ms 0/\(jV rs (qX hs ms) (qX hs ms).length=[]\/most<=ms.length),?_,?_⟩
   refine⟨λm σ' X=>∃(ms:List (Nat×Str)) (qs:List Addr) (ys:List V) (nw:Addr) (v7 v8:Option V),m=most - ms.length/\σ'=[some (.ref g),some (.ref h'),some (.ref f0),some (.ref f1),some (.int (most:Nat)),some (.ref nw),some (.ref mo),v7,v8]/\Same H0 X/\(∀c o u,H c=some (.frz o u)->X c=some (.frz o u))/\X nw=some (.lst ((qX hs ms).map V.str))/\nw≠la/\nw≠mo/\X mo=some (.lst (qs.map V.ref))/\jf X qs ms/\X la=some (.lst ys)/\jJ X (λe=>e=la\/e=mo) 0 ys (pre hs ms)/\X d0=some (.dK (jo N.b0 N.m0 (((ms.length+1) / 2:Nat):Int) N.o v))/\X d1=some (.dK (jo N.b1 N.m1 ((ms.length / 2:Nat):Int) N.o v))/\zb N rs most hs ms 0,
     ⟨most,[],[],[],no,none,none,rfl,rfl,s03,λc o u hc=>s13 _ _ hc,u3 _ _ v2,nol,nmn,v3,jf.nil _,s13 _ _ hla,trivial,s13 _ _ hd0,s13 _ _ hd1,trivial⟩,?_⟩
   . rintro m σ' X ⟨ms,qs,ys,nw,v7,v8,rfl,rfl,sX,kX,hnw,n1,n2,hmoX,mv,hlaX,ask,hd0X,hd1X,fol⟩
     have lq:=mv.1
     have fle:=fol.le (Nat.zero_le _)
     rw[Nat.zero_add]at fle
     have oki:=oks.last good fol.wk
     have lys:=ask.len
     rw[Jm]at lys
     generalize hL:qX hs ms=hk at hnw oki
     refine⟨_,rfl,mo,_,rfl,.inl (.of hmoX),_,rfl,_,_,rfl,rfl,_,rfl,?_⟩
     by_cases c:ms.length < most
     . refine jr (decide_eq_true (by rw[List.length_map];omega)) ?_
       refine⟨_,rfl,_,rfl,g,nw,rs,hk,rfl,gr.mono sX,good,le14,⟨hnw,oki.1,oki.2⟩,λX4 s4=>⟨_,rfl,?_⟩⟩
       have s04:=sX.trans s4
       have k4:∀c o u,H c=some (.frz o u)->X4 c=some (.frz o u):=λc o u hc=>s4 _ _ (kX c o u hc)
       cases emp:(jV rs hk hk.length).isEmpty with
       | true=>exact jk rfl ⟨ms,qs,ys,nw,v7,v8,rfl,s04,k4,by rw[hL];exact s4 _ _ hnw,n1,n2,s4 _ _ hmoX,mv.mono s4,s4 _ _ hlaX,jM ask s4,s4 _ _ hd0X,s4 _ _ hd1X,fol,.inl (by rw[hL];exact List.isEmpty_iff.mp emp)⟩
       | false=>
         refine jr rfl ⟨λσ' X=>∃(ms':List (Nat×Str)) (qs:List Addr) (ys:List V) (nw:Addr) (v7 v8:Option V),most - ms'.length < most - ms.length/\σ'=[some (.ref g),some (.ref h'),some (.ref f0),some (.ref f1),some (.int (most:Nat)),some (.ref nw),some (.ref mo),v7,v8]/\Same H0 X/\(∀c o u,H c=some (.frz o u)->X c=some (.frz o u))/\X nw=some (.lst ((qX hs ms').map V.str))/\nw≠la/\nw≠mo/\X mo=some (.lst (qs.map V.ref))/\jf X qs ms'/\X la=some (.lst ys)/\jJ X (λe=>e=la\/e=mo) 0 ys (pre hs ms')/\X d0=some (.dK (jo N.b0 N.m0 (((ms'.length+1) / 2:Nat):Int) N.o v))/\X d1=some (.dK (jo N.b1 N.m1 ((ms'.length / 2:Nat):Int) N.o v))/\zb N rs most hs ms' 0,λσ' X ⟨ms',qs,ys,nw,v7,v8,lt,z⟩=>⟨most - ms'.length,lt,ms',qs,ys,nw,v7,v8,rfl,z⟩,?_⟩
         have ne:jV rs hk hk.length≠[]:=λz=>by rw[z]at emp;cases emp
         obtain⟨x,ex⟩:=Wf (N.b ms.length) (N.m ms.length) (ms.length:Int) ne
         have exA:Wg N rs (qX hs ms) ms.length=some x:=by rw[hL];exact ex
         have nb:=nok.b ms.length
         have sel:∃(fi:Addr) (fdi:FuncData) (dn dm:Addr) (mine a:Int) (vm:List (qQ×V)),(decide (V.int ((ms.length:Int) % 2)=V.int 0)=true->fi=f0)/\(decide (V.int ((ms.length:Int) % 2)=V.int 0)=false->fi=f1)/\vb H PT fi "_law_player_here" Zf Ja fdi (Ke la dn l mine)/\X4 dn=some (.dK (jo (N.b ms.length) (N.m ms.length) a N.o v))/\X4 dm=some (.dK vm)/\dm≠dn/\2*a+mine=(ms.length:Int)/\0<=a/\0<=mine/\mine<=1/\((ms.length % 2:Nat):Int)=mine/\H0 dn=none/\
             ∀Y:Hp,Y dn=some (.dK (jo (N.b ms.length) (N.m ms.length) (a+1) N.o v))->Y dm=some (.dK vm)->Y d0=some (.dK (jo N.b0 N.m0 (((ms.length+1+1) / 2:Nat):Int) N.o v))/\Y d1=some (.dK (jo N.b1 N.m1 (((ms.length+1) / 2:Nat):Int) N.o v)):=by
           unfold Nm.b Nm.m
           rcases Nat.mod_two_eq_zero_or_one ms.length with e | e
           . have e':(ms.length:Int) % 2=0:=by omega
             rw[if_pos e,if_pos e,e']
             refine⟨f0,fd0,d0,d1,0,_,_,λ_=>rfl,(λz=>by rw[decide_eq_true rfl]at z;cases z),cl0,s4 _ _ hd0X,s4 _ _ hd1X,Ne.symm n01,by omega,by omega,by decide,by decide,by omega,nd0,λY h1 h2=>⟨?_,?_⟩⟩
             . rw[h1]
               congr 3
               omega
             . rw[h2]
               congr 3
               omega
           . have e':(ms.length:Int) % 2=1:=by omega
             rw[if_neg (by omega),if_neg (by omega),e']
             refine⟨f1,fd1,d1,d0,1,_,_,(λz=>by rw[decide_eq_false (λw=>absurd (V.int.inj w) (by decide))]at z;cases z),λ_=>rfl,cl1,s4 _ _ hd1X,s4 _ _ hd0X,n01,by omega,by omega,by decide,by decide,by omega,yp,λY h1 h2=>⟨?_,?_⟩⟩
             . rw[h2]
               congr 3
               omega
             . rw[h1]
               congr 3
               omega
         obtain⟨fi,fdi,dn,dm,mine,a,vm,se1,se2,cl,hdn,hdm,ndm,eam,a0,mi0,mi1,emi,ndn0,upn⟩:=sel
         refine⟨_,rfl,mo,_,rfl,.inl (.of (s4 _ _ hmoX)),_,_,rfl,rfl,(by show (0:Int) < 2;decide),rfl,_,rfl,?_⟩
         rw[List.length_map,lq]
         refine Re (f0:=f0) (f1:=f1) (fi:=fi) rfl rfl se1 se2 ?_
         obtain⟨doc,pm,ctv,c',cl2,oc,efd,hf,hcd,rest⟩:=cl.ex
         refine⟨fi,fdi,_,rfl,⟨⟨doc,pm,ctv,c',cl2,efd⟩,rfl⟩,k4 _ _ _ hf,_,rfl,nw,_,rfl,.inl (.of (s4 _ _ hnw)),λhp fhp=>?_⟩
         have u5:=qk (o:=HO.lst (hk.map V.str)) fhp
         have y5:upd X4 hp (.lst (hk.map V.str)) hp=some (.lst (hk.map V.str)):=qd
         generalize upd X4 hp (.lst (hk.map V.str))=X5 at u5 y5
         have s45:=s4.trans u5
         have s05:=s04.trans u5
         have k5:∀c o u,H c=some (.frz o u)->X5 c=some (.frz o u):=λc o u hc=>u5 _ _ (k4 c o u hc)
         have hla5:=s45 _ _ hlaX
         have hla4:=s4 _ _ hlaX
         have nlh:la≠hp:=λz=>by rw[<-z,hla4]at fhp;cases fhp
         have fhp0:H0 hp=none:=by
           cases z:H0 hp with
           | none=>rfl
           | some o=>rw[s04 _ _ z]at fhp;cases fhp
         have exE:uQ rs hk (N.b ms.length) (N.m ms.length) (2*a+mine)=some x:=by rw[eam];exact ex
         refine⟨k5 _ _ _ hf,_,cl.mono k5,l,la,dn,hp,ps,rs,hk,N.b ms.length,N.m ms.length,a,N.o,mine,v,N.d,ys,x,rfl,rfl,gl.mono s05,⟨y5,oki.1,oki.2⟩,u5 _ _ hdn,hla5,nlh,by omega,nb.1,nb.2,a0,by omega,mi0,mi1,jX s05.keep dv,nok.sh,exE,λX6 u tp lc fr ftp flc hla6 htp hlc hdn6 sy=>?_⟩
         have s06:Same H0 X6:=λb o hb=>fr _ _ (s05 _ _ hb) (qm hb nla) (qm hb ndn0) (qm hb fhp0)
         have ndl:dn≠la:=λz=>by rw[z,hla4]at hdn;cases hdn
         have k6:∀c o u,H c=some (.frz o u)->X6 c=some (.frz o u):=λc o u hc=>by
           have h5:=k5 c o u hc
           exact fr _ _ h5 (λz=>by rw[z,hla5]at h5;cases h5) (λz=>by rw[z,u5 _ _ hdn]at h5;cases h5) (λz=>by rw[z,y5]at h5;cases h5)
         have lstF:∀{b:Addr} {xs:List V},X4 b=some (.lst xs)->b≠la->X6 b=some (.lst xs):=λ{b xs} hb nb'=>fr _ _ (u5 _ _ hb) nb' (λz=>by rw[z,hdn]at hb;cases hb) (λz=>by rw[z,fhp]at hb;cases hb)
         have tupF:∀{b:Addr} {xs:List V},X4 b=some (.tup xs)->X6 b=some (.tup xs):=λ{b xs} hb=>fr _ _ (u5 _ _ hb) (λz=>by rw[z,hla4]at hb;cases hb) (λz=>by rw[z,hdn]at hb;cases hb) (λz=>by rw[z,fhp]at hb;cases hb)
         have hmo6:=lstF (s4 _ _ hmoX) nml
         have hnw6:=lstF (s4 _ _ hnw) n1
         have hdm6:X6 dm=some (.dK vm):=fr _ _ (u5 _ _ hdm) (λz=>by rw[z,hla4]at hdm;cases hdm) ndm (λz=>by rw[z,fhp]at hdm;cases hdm)
         obtain⟨e0,e1⟩:=upn X6 hdn6 hdm6
         have mv4:=mv.mono s4
         have mv6:jf X6 qs ms:=⟨mv.1,λi p m h1 h2=>tupF (mv4.2 i p m h1 h2)⟩
         have nlc:¬(lc=la\/lc=mo):=λz=>by
           rcases z with z | z
           . rw[z,hla5]at flc;cases flc
           . rw[z,s45 _ _ hmoX]at flc;cases flc
         have ask6:jJ X6 (λe=>e=la\/e=mo) 0 (ys++[V.ref tp]) (pre hs ms++[hk]):=by
           refine((jM ask s4).mono λb ob hb zz=>?_).snoc hlc nlc (by rw[Nat.zero_add,Jm,emi];exact htp)
           have nh:b≠hp:=λz=>by rw[z,fhp]at hb;cases hb
           rcases zz with ⟨xs,rfl⟩ | ⟨⟨xs,rfl⟩,zz⟩
           . exact tupF hb
           . exact lstF hb (λz=>zz (.inl z))
         have hdv6:=jX s06.keep dv
         rcases sy with ⟨eo,od⟩ | ⟨no',p,rfl,hp6⟩
         ·
           have eo:N.o=(ms.length:Int):=by rw[eo,eam]
           have nm:Zs K X6 (jV rs hk hk.length) u:=by
             rcases od with ⟨_,_,p,rfl,hp⟩ | ⟨_,rfl⟩
             . exact .who hp (.bl _) (.inr ⟨RO K,RP K⟩)
             . exact(nomv hk oki).keep s06.keep
           refine⟨_,rfl,_,rfl,_,rfl,.inr ⟨g,nw,rs,hk,u,rfl,gr.mono s06,good,le14,⟨hnw6,oki.1,oki.2⟩,nm,λX7 dx s7 hdx=>?_⟩⟩
           refine qE X7 dx ms x u _ (s06.trans s7) hdx (s7 _ _ hla6) (by rw[hL];exact(jM ask6 s7).dv) fol ⟨by rw[hL];exact ne,c,eo⟩ exA ?_
           rcases od with ⟨c1,c2,p,rfl,hp⟩ | z
           . exact .inl ⟨c1,c2,p,rfl,s7 _ _ hp⟩
           . exact .inr z
         . have no:N.o≠(ms.length:Int):=λz=>no' (by rw[z,eam])
           refine⟨_,rfl,_,rfl,_,rfl,.inl ⟨g,nw,p,rs,hk,x,rfl,gr.mono s06,good,le14,⟨hnw6,oki.1,oki.2⟩,hp6,Ju ex,λX7 a7 s7 na7 h7=>?_⟩⟩
           have hmo7:=s7 _ _ hmo6
           refine⟨_,rfl,.inl ⟨rfl,_,.of hmo7⟩,_,rfl,mo,_,_,rfl,rfl,hmo7,by rw[List.length_map,lq];exact qu (by omega),?_⟩
           have na:a7≠la:=λz=>by rw[z,hla6]at na7;cases na7
           have nm:a7≠mo:=λz=>by rw[z,hmo6]at na7;cases na7
           refine⟨ms++[x],qs++[p],ys++[V.ref tp],a7,_,_,by rw[List.length_append,List.length_singleton];omega,rfl,λb o hb=>?_,λc o u hc=>?_,?_,na,nm,?_,?_,?_,?_,?_,?_,?_⟩
           . rw[qg (qm hb fmo)]
             exact s7 _ _ (s06 _ _ hb)
           . have h6:=s7 _ _ (k6 c o u hc)
             rw[qg (λz=>by rw[z,hmo7]at h6;cases h6)]
             exact h6
           . rw[qg nm,YA,hL]
             exact h7
           . rw[qd,List.map_append]
             rfl
           . exact((mv6.mono s7).app (.one (s7 _ _ hp6))).lst hmo7
           . rw[qg (Ne.symm nml)]
             exact s7 _ _ hla6
           . rw[VD,hL]
             exact za hmo7 (.inr rfl) (jM ask6 s7)
           . have e0':=s7 _ _ e0
             rw[List.length_append,List.length_singleton,qg (λz=>by rw[z,hmo7]at e0';cases e0')]
             exact e0'
           . have e1':=s7 _ _ e1
             rw[List.length_append,List.length_singleton,qg (λz=>by rw[z,hmo7]at e1';cases e1')]
             exact e1'
           . exact fol.mk (by rw[Nat.zero_add];exact exA) (by rw[Nat.zero_add];exact no) (by rw[Nat.zero_add];exact c)
     . exact jk (decide_eq_false (by rw[List.length_map];omega)) (jP ⟨ms,qs,ys,nw,v7,v8,rfl,sX,kX,by rw[hL];exact hnw,n1,n2,hmoX,mv,hlaX,ask,hd0X,hd1X,fol,.inr (by omega)⟩)
   . rintro σ' X ⟨ms,qs,ys,nw,v7,v8,rfl,sX,kX,hnw,n1,n2,hmoX,mv,hlaX,ask,hd0X,hd1X,fol,stop⟩
     have lq:=mv.1
     have oki:=oks.last good fol.wk
     have stp:Gp N rs most (qX hs ms) ms.length:=by
       rcases stop with z | z
       . exact .inl z
       . exact .inr (.inl z)
     have nod:¬U7 N rs most hs ms:=by
       rintro⟨z1,z2,_⟩
       rcases stop with z | z
       . exact z1 z
       . omega
     refine⟨_,rfl,_,rfl,g,nw,rs,_,rfl,gr.mono sX,good,le14,⟨hnw,oki.1,oki.2⟩,λX5 s5=>⟨_,rfl,?_⟩⟩
     cases emp:(jV rs (qX hs ms) (qX hs ms).length).isEmpty with
     | true=>
       refine jr rfl ⟨_,rfl,_,rfl,mo,_,rfl,.inl (.of (s5 _ _ hmoX)),ms.length,by rw[List.length_map,lq];rfl,by show 2<=sizeLine;decide,λt ht=>?_⟩
       have st:=qk (o:=HO.tup [V.ref mo,.str (wG ms.length)]) ht
       have s5t:=s5.trans st
       refine q _ t mo ms qs ys (sX.trans s5t) ?_ (s5t _ _ hmoX) (mv.mono s5t) (s5t _ _ hlaX) (jM ask s5t).dv fol stp nod
       unfold Q4
       rw[emp,if_pos rfl]
       exact qd
     | false=>
       refine jk rfl ⟨_,rfl,by show 2<=sizeLine;decide,λt ht=>?_⟩
       have st:=qk (o:=HO.tup [V.ref mo,.str (Str.ofString "open")]) ht
       have s5t:=s5.trans st
       refine q _ t mo ms qs ys (sX.trans s5t) ?_ (s5t _ _ hmoX) (mv.mono s5t) (s5t _ _ hlaX) (jM ask s5t).dv fol stp nod
       unfold Q4
       rw[emp,if_neg (by decide)]
       exact qd
end
end Rh
set_option Elab.async false
set_option linter.all false
set_option maxRecDepth 100000
set_option maxHeartbeats 4000000
namespace Rh
open PySem L2 PyProof.Rows
abbrev Vr:Stmt:=top 48
def vp (K:PySem.W.Frag) (CG PT:Addr):Sp:=λvs H Q _=>∃(g l h ln d0 d1:Addr) (ps:List Addr) (rs:jK) (hs:List Str) (N:Nm) (v:V) (most:Nat) (H0:Hp),vs=[.ref g,.ref l,.ref h,.ref ln,.int (most:Nat)]/\Same H0 H/\H0 d0=none/\H0 d1=none/\d0≠d1/\H0 PT=some (.tbl #[.str Zf 0])/\Qt CG H0 g rs/\jy H0 l ps rs/\jH H0 h rs hs/\YT N/\DV K H0 v N.d/\(∀hk,QE rs hk->Zs K H0 (jV rs hk hk.length) v)/\most<=100/\H0 ln=some (.lst [.ref d0,.ref d1])/\H d0=some (.dK (jo N.b0 N.m0 0 N.o v))/\H d1=some (.dK (jo N.b1 N.m1 0 N.o v))/\
 ∀H' R d,JB H0 H'->DV K H' (.ref R) d->U6 N rs most hs d->Q (.ref R) H'
section
variable {P:Program} {w:World} {K:PySem.W.Frag} {mg:Str->Option Value} {base:Heap}
abbrev nTo:List Str:=["_law_ground","_law_rows_here","_law_heap_here","_law_numbers_here","_law_most","_law_asked","_law_first","_law_second","_law_found","_law_moves_here","_law_ending","e"]
abbrev GJ:List Str:=["_law_ground","_law_rows_here","_law_heap_here","_law_numbers_here","_law_most"]
theorem Yf:qA nTo GJ (qi Vr):=⟨rfl,rfl,rfl,by decide+kernel,rfl,by decide+kernel,by decide+kernel⟩
abbrev Kl (t:TE):TE:=wc (λxs H Q=>(∃i,xs=[V.int i]/\Q (.int i) H)\/∃k,xs=[V.bl k]/\Q (.int (if k then 1 else 0)) H) (jc t Qk)
theorem xl {f fL fP CG D CM fX CH PT:Addr} {fd fdL fdP fdX:FuncData} (F:Qa K "_law_told" "_law_told" Vr f fd) (B:JF mg) (T:Qh K mg) (hL:jC K mg "_law_player" ZT XM fL fdL) (GL:qp P w K mg base q5 1 fL fdL XM (vw PT)) (hP:jC K mg "played" QQ xc fP fdP) (GP:qp P w K mg base (Jj P w) 7 fP fdP xc (yO K CG CM PT))
   (xM:x4 K mg D "NoMove" "NoMove.__init__" Qv "found" CM fX fdX) (Y:uU K mg D CM CH):qp P w K mg base q5 8 f fd GJ (vp K CG PT):=by
 refine F.okJ Yf (λvs H Q E h=>?_) (λcdv A outer s H vs Q E hr h=>?_)
 . obtain⟨g,l,h',ln,d0,d1,ps,rs,hs,N,v,most,H0,rfl,_⟩:=h
   rfl
 . obtain⟨g,l,h',ln,d0,d1,ps,rs,hs,N,v,most,H0,rfl,s0,nd0,yp,n01,htb,gr,gl,hh,nok,dv,nomv,m100,hln,hd0,hd1,q⟩:=h
   have r1:qY 1 _:=hr.mono (by decide)
   refine⟨_,qh (qt (i:=5) Yf.nd rfl (Or.inl rfl) (qO qe))
     (qh (qt (i:=6) Yf.nd rfl (Or.inl rfl) (qP hL GL r1 (by rfl) (qb (jv 1) (qb (qW jg (jv 3) qj (λ_ _=>rfl)) (qb (jv 5) (qb qj qe))))))
     (qh (qt (i:=7) Yf.nd rfl (Or.inl rfl) (qP hL GL r1 (by rfl) (qb (jv 1) (qb (qW jg (jv 3) qj (λ_ _=>rfl)) (qb (jv 5) (qb qj qe))))))
     (qh (qt (i:=8) Yf.nd rfl (Or.inl rfl) WT)
     (qh (uB (tb:=λE=>XC (Yc (Wx (yO K CG CM PT) [] E (jc (jt 0) (jc (jt 2) (jc (jt 6) (jc (jt 7) (jc (jt 4) Qk)))))) (uJ K 2 (X0 (Qs 9) (X0 (Qs 10) uK)))) (Yc (vh (jc (tC (.str (Str.ofString "played"))) (jc (jt 9) (jc (jt 10) Qk)))) (Qs 8))) rfl rfl (λpn W E hE=>qh (Xe (K8 hP GP hr hE (by rfl) (qb (jv 0) (qb (jv 2) (qb (jv 6) (qb (jv 7) (qb (jv 4) qe)))))) (JV rfl (jq (qF (i:=9) Yf.nd rfl (Or.inl rfl) (hf:=Or.inl rfl)) (jq (qF (i:=10) Yf.nd rfl (Or.inl rfl) (hf:=Or.inl rfl)) QT))))
         (ql (qt (i:=8) Yf.nd rfl (Or.inl rfl) (qO (qb qx (qb (jv 9) (qb (jv 10) qe)))))))
       (xG (j:=11) (ts:=Yc (vh (jc (Xx (vL K) (vh (jc (tC (.str (Str.ofString "no move"))) (jc (tC (.str (Str.ofString "other"))) Qk))) (Kl (x9 (wc (vM K (.ref D::j7)) (jc (jt 11) (jc (tC (.ref D)) Qk)))))) (jc (wa K (.ref D::j7) (jt 11) "found") Qk))) (Qs 8))
         (by rfl) xM.ns xM.rcls Yf.nd rfl rfl
         (λv E=>ql (qt (i:=8) Yf.nd rfl (Or.inl rfl) (qO (qb (qW jg (qO (qb qx (qb qx qe))) (qR ZG (by rfl) B.int boot_int (qb (kJ (qw (Wj (bm:=.ref D::j7) Y.spc Y.tks) (by rfl) T.isi boot_isinstance (qb (jv 11) (qb (Jr (v:=.ref D) (by rfl) Y.nD rfl) qe)))) qe)) (λ_ _=>rfl)) (qb (xI (bm:=.ref D::j7) (jv 11) rfl) qe)))))
         kH))
     (ql (qH (qO (qb (jv 8) (qb (jv 5) qe))))))))),?_⟩
   refine⟨by show 0<=sizeLine;decide,λla fla=>?_⟩
   have u1:=qk (o:=HO.lst []) fla
   have y1:upd H la (.lst []) la=some (.lst []):=qd
   have fla0:H0 la=none:=by
     cases z:H0 la with
     | none=>rfl
     | some o=>rw[s0 _ _ z]at fla;cases fla
   generalize upd H la (.lst [])=H1 at u1 y1
   have s01:=s0.trans u1
   refine⟨_,rfl,_,rfl,ln,_,0,_,rfl,rfl,.of (s01 _ _ hln),rfl,_,rfl,l,d0,la,0,rfl,s01 _ _ htb,λH2 f0 fd0 u2 cl0=>?_⟩
   have s02:=s01.trans u2
   refine⟨_,rfl,_,rfl,ln,_,1,_,rfl,rfl,.of (s02 _ _ hln),rfl,_,rfl,l,d1,la,1,rfl,s02 _ _ htb,λH3 f1 fd1 u3 cl1=>?_⟩
   have s03:=s02.trans u3
   have u23:=u2.trans u3
   have u13:=u1.trans u23
   refine⟨λC dx Hx=>C=CM/\∃ms x u ys,Same H0 Hx/\Hx dx=some (.xd [(Str.ofString "found",u)])/\Hx la=some (.lst ys)/\DVs K Hx ys (QD 0 (pre hs ms++[qX hs ms]))/\zb N rs most hs ms 0/\U7 N rs most hs ms/\Wg N rs (qX hs ms) ms.length=some x/\W7 Hx v N.d x u,⟨_,rfl,_,rfl,_,rfl,_,rfl,_,rfl,g,h',f0,f1,la,d0,d1,l,fd0,fd1,ps,rs,hs,N,v,most,H0,rfl,s03,fla0,nd0,yp,n01,gr,gl,hh,nok,dv,nomv,m100,u23 _ _ y1,u13 _ _ hd0,u13 _ _ hd1,cl0.mono (λb o u z=>u3 _ _ z),cl1,?_,?_⟩,?_⟩
   . intro H' t mo ms qs ys s' ht hmo mv hla' dvs fol stp nod
     refine⟨t,_,rfl,.of ht,rfl,_,_,rfl,_,_,rfl,rfl,?_⟩
     refine⟨_,rfl,_,rfl,by show 3<=sizeLine;decide,λA1 fA=>?_⟩
     have s8:=qk (o:=HO.lst [V.str (Str.ofString "played"),.ref mo,.str (Q4 rs hs ms)]) fA
     have y8:upd H' A1 (.lst [V.str (Str.ofString "played"),.ref mo,.str (Q4 rs hs ms)]) A1=some (.lst [V.str (Str.ofString "played"),.ref mo,.str (Q4 rs hs ms)]):=qd
     generalize upd H' A1 (.lst [V.str (Str.ofString "played"),.ref mo,.str (Q4 rs hs ms)])=X8 at s8 y8
     refine⟨_,rfl,_,rfl,by show 2<=sizeLine;decide,λR fR=>?_⟩
     have s9:=qk (o:=HO.lst [V.ref A1,.ref la]) fR
     have sA:=s8.trans s9
     exact q _ R _ (s'.trans sA).keep (.lst (.of qd) (.cons (.lst (.of (s9 _ _ y8)) (.cons (.str _) (.cons (U9 (sA _ _ hmo) (mv.mono sA)) (.cons (.str _) .nil)))) (.cons (.lst (.of (sA _ _ hla')) (dvs_keep sA.keep dvs)) .nil))) ⟨ms,fol,stp,.inr ⟨nod,rfl⟩⟩
   . intro Hx dx ms x u ys sx hdx hla' dvs fol ods ex od
     exact⟨rfl,CM,dx,rfl,rfl,rfl,ms,x,u,ys,sx,hdx,hla',dvs,fol,ods,ex,od⟩
   . rintro a C dx T' Hx H' ⟨rfl,ms,x,u,ys,sx,hdx,hla',dvs,fol,ods,ex,od⟩ ha kp ha'
     have nda:dx≠a:=λz=>by
       rw[z,ha]at hdx
       cases hdx
     have hdx':=kp dx _ nda hdx
     have kx:JB Hx H':=λb o hb nx=>kp b o (λz=>by
       rw[z,ha]at hb
       exact nx _ (Option.some.inj hb).symm) hb
     have k0:JB H0 H':=sx.keep.trans kx
     have lk:([(Str.ofString "found",u)]:List (Str×V)).lookup (Str.ofString "found")=some u:=by simp [List.lookup]
     have od':W7 H' v N.d x u:=by
       rcases od with ⟨c1,c2,p,rfl,hp⟩ | z
       . exact .inl ⟨c1,c2,p,rfl,kx _ _ hp (λ_ z=>nomatch z)⟩
       . exact .inr z
     obtain⟨du,odd,dvu⟩:=od'.dv dv k0
     refine⟨fX,_,xM.mkr,?_⟩
     rw[if_pos (by simp [List.contains_cons])]
     refine⟨by show 2<=sizeLine;decide,λlz flz=>?_⟩
     have s6:=qk (o:=HO.lst [V.str (Str.ofString "no move"),.str (Str.ofString "other")]) flz
     have y6:upd H' lz (.lst [V.str (Str.ofString "no move"),.str (Str.ofString "other")]) lz=some (.lst [V.str (Str.ofString "no move"),.str (Str.ofString "other")]):=qd
     generalize upd H' lz (.lst [V.str (Str.ofString "no move"),.str (Str.ofString "other")])=X6 at s6 y6
     refine⟨_,rfl,a,C,dx,_,_,.ref D,true,rfl,rfl,s6 _ _ ha',s6 _ _ hdx',xM.cls,Y.k1,_,rfl,.inr ⟨_,rfl,lz,_,_,_,rfl,rfl,.of y6,rfl,?_⟩⟩
     refine⟨_,rfl,a,C,dx,_,_,u,rfl,s6 _ _ ha',s6 _ _ hdx',xM.cls,xM.na,lk,by show 2<=sizeLine;decide,λA1 fA=>?_⟩
     have s8:=qk (o:=HO.lst [V.str (Str.ofString "no move"),u]) fA
     have y8:upd X6 A1 (.lst [V.str (Str.ofString "no move"),u]) A1=some (.lst [V.str (Str.ofString "no move"),u]):=qd
     generalize upd X6 A1 (.lst [V.str (Str.ofString "no move"),u])=X8 at s8 y8
     refine⟨_,rfl,_,rfl,by show 2<=sizeLine;decide,λR fR=>?_⟩
     have s9:=qk (o:=HO.lst [V.ref A1,.ref la]) fR
     have sA:=(s6.trans s8).trans s9
     have kA:=kx.trans sA.keep
     exact q _ R _ (k0.trans sA.keep) (.lst (.of qd) (.cons (.lst (.of (s9 _ _ y8)) (.cons (.str _) (.cons (jX sA.keep dvu) .nil))) (.cons (.lst (.of (kA _ _ hla' (λ_ z=>nomatch z))) (dvs_keep kA dvs)) .nil))) ⟨ms,fol,.inr (.inr ods.2.2),.inl ⟨ods,x,du,ex,odd,rfl⟩⟩
end
end Rh
set_option Elab.async false
set_option linter.all false
set_option maxRecDepth 100000
set_option maxHeartbeats 4000000
namespace Rh
open PySem L2 PyProof.Rows
abbrev yW:Stmt:=top 49
structure Xw (K:PySem.W.Frag) (H:Hp) (rs:jK) (v:V) (d:PyData):Prop where
 dv:DV K H v d
 no:∀hk,QE rs hk->Zs K H (jV rs hk hk.length) v
 sh:PySem.SeqAt.shaped d=true
 sw:d.showable=true
 dp:d.depth<=5
 ln:d.shown.length<=1000
theorem Xw.keep {K:PySem.W.Frag} {H H':Hp} {rs:jK} {v:V} {d:PyData} (h:Xw K H rs v d) (s:JB H H'):Xw K H' rs v d:=⟨jX s h.dv,λhk o=>(h.no hk o).keep s,h.sh,h.sw,h.dp,h.ln⟩
theorem WC {d:PyData} (h:d.canLay0=true) (l:d.depth<=5):PySem.SeqAt.shaped d=true:=by
 unfold PySem.SeqAt.shaped
 rw[Bool.and_eq_true]
 exact⟨h,decide_eq_true (by omega)⟩
theorem zy {K:PySem.W.Frag} {H:Hp} {rs:jK} {v:V} {d:PyData} (h:DV K H v d) (s:Yb d) (no:∀hk,QE rs hk->Zs K H (jV rs hk hk.length) v):Xw K H rs v d:=⟨h,no,WC s.cl s.dp,s.sh,s.dp,Nat.le_trans s.ln (by decide)⟩
theorem wO:Yb (.int 99):=⟨by decide+kernel,Nat.zero_le _,by decide+kernel,rfl⟩
theorem Uf:Yb (.str (Str.ofString "truth")):=zi (by decide+kernel) (by decide+kernel)
theorem Y8 {K:PySem.W.Frag} {H:Hp} {rs:jK} {p:Addr} {i:Int} {z:Str} (h:H p=some (.tup [.int i,.str z])) (si:Yb (.int i)) (sz:Yb (.str z)) (no:∀hk,QE rs hk->∀m∈jV rs hk hk.length,¬((m.1:Int)=i/\z=m.2)):Xw K H rs (.ref p) (.tuple [.int i,.str z]):=by
 have al:=yQ si sz
 have hd:=QO al
 have dp:(PyData.tuple [.int i,.str z]).depth<=5:=by
   simp only[PyData.depth,PyData.depthAll]
   decide
 refine⟨.tup (.of h) (.cons (.int i) (.cons (.str z) .nil)),λhk o=>.out h (.str z) sz.cl (Nat.zero_le _) λm hm e=>no hk o m hm ⟨e.1,PyData.str.inj e.2⟩,WC ?_ dp,jY al,dp,?_⟩
 . show (true&&((PyData.str z).canLay0&&true))=true
   rw[sz.cl]
   rfl
 . show (tupleText (PyData.shownAll [.int i,.str z])).length<=1000
   have h1:=tupleText_len_le (PyData.shownAll [.int i,.str z])
   obtain⟨h2,h3⟩:=Qo al
   rw[show [PyData.int i,.str z].length=2 from rfl]at h2 h3
   omega
theorem xw {K:PySem.W.Frag} {H:Hp} {rs:jK} {p:Addr} {z:Str} (h:H p=some (.lst [.int 0,.str z])) (sz:Yb (.str z)):Xw K H rs (.ref p) (.list [.int 0,.str z]):=by
 have al:=yQ (J9 (n:=0) (by decide)) sz
 have dp:(PyData.list [.int 0,.str z]).depth<=5:=by
   simp only[PyData.depth,PyData.depthAll]
   decide
 refine⟨.lst (.of h) (.cons (.int 0) (.cons (.str z) .nil)),λhk o=>.ty (.lst h) (RK K),WC ?_ dp,jY al,dp,?_⟩
 . show (true&&((PyData.str z).canLay0&&true))=true
   rw[sz.cl]
   rfl
 . show (listText (PyData.shownAll [.int 0,.str z])).length<=1000
   have h1:=listText_len_le (PyData.shownAll [.int 0,.str z])
   obtain⟨h2,h3⟩:=Qo al
   rw[show [PyData.int ((0:Nat):Int),.str z].length=2 from rfl]at h2 h3
   have h2':((PyData.shownAll [.int 0,.str z]).map (·.length)).sum<=120*2:=h2
   have h3':(PyData.shownAll [.int 0,.str z]).length=2:=h3
   omega
def wo (K:PySem.W.Frag):Sp:=λvs H Q _=>∃(d l:Addr) (ps:List Addr) (rs:jK) (n s t:Int),vs=[.ref d,.ref l]/\jy H l ps rs/\H d=some (.dK (src n s t))/\
 ∀(ln d0 d1:Addr) (N:Nm) (v:V) (n' t':Int) (Hv H':Hp),Fr H d Hv->Fr Hv d H'->Hv d0=none->Hv d1=none->d0≠d1->H' d=some (.dK (src n' s t'))->H' ln=some (.lst [.ref d0,.ref d1])->H' d0=some (.dK (jo N.b0 N.m0 0 N.o v))->H' d1=some (.dK (jo N.b1 N.m1 0 N.o v))->YT N->Xw K (Q5 Hv d) rs v N.d->Q (.ref ln) H'
theorem uv (b m:Int):jw [] [(Sum.inr (Str.ofString "by"),V.int b),(Sum.inr (Str.ofString "more"),V.int m),(Sum.inr (Str.ofString "asked"),V.int 0)]=[(Sum.inr (Str.ofString "by"),V.int b),(Sum.inr (Str.ofString "more"),V.int m),(Sum.inr (Str.ofString "asked"),V.int 0)]:=by
 have n1:¬(Str.ofString "by")=Str.ofString "more":=by decide+kernel
 have n2:¬(Str.ofString "by")=Str.ofString "asked":=by decide+kernel
 have n3:¬(Str.ofString "more")=Str.ofString "asked":=by decide+kernel
 unfold jw
 simp only[List.foldl_cons,List.foldl_nil]
 unfold jD
 simp [n1,n2,n3]
theorem uw (o:Int) (v:V):jw [] [(Sum.inr (Str.ofString "odd at"),V.int o),(Sum.inr (Str.ofString "odd"),v)]=[(Sum.inr (Str.ofString "odd at"),V.int o),(Sum.inr (Str.ofString "odd"),v)]:=by
 have n1:¬(Str.ofString "odd at")=Str.ofString "odd":=by decide+kernel
 unfold jw
 simp only[List.foldl_cons,List.foldl_nil]
 unfold jD
 simp [n1]
theorem uu (b m o:Int) (v:V):jw [(Sum.inr (Str.ofString "by"),V.int b),(Sum.inr (Str.ofString "more"),V.int m),(Sum.inr (Str.ofString "asked"),V.int 0)] [(Sum.inr (Str.ofString "odd at"),V.int o),(Sum.inr (Str.ofString "odd"),v)]=jo b m 0 o v:=by
 have n1:¬(Str.ofString "by")=Str.ofString "odd at":=by decide+kernel
 have n2:¬(Str.ofString "more")=Str.ofString "odd at":=by decide+kernel
 have n3:¬(Str.ofString "asked")=Str.ofString "odd at":=by decide+kernel
 have n4:¬(Str.ofString "by")=Str.ofString "odd":=by decide+kernel
 have n5:¬(Str.ofString "more")=Str.ofString "odd":=by decide+kernel
 have n6:¬(Str.ofString "asked")=Str.ofString "odd":=by decide+kernel
 have n7:¬(Str.ofString "odd at")=Str.ofString "odd":=by decide+kernel
 unfold jw jo
 simp only[List.foldl_cons,List.foldl_nil]
 unfold jD
 simp [n1,n2,n3,n4,n5,n6,n7]
section
variable {P:Program} {w:World} {K:PySem.W.Frag} {mg:Str->Option Value} {base:Heap}
abbrev RB:List Str:=["_law_source_here","_law_rows_here","_law_found","_law_odd_at","_law_name","_law_odd","_law_k","_law_number"]
abbrev xf:List Str:=["_law_source_here","_law_rows_here"]
theorem zk:qA RB xf (qi yW):=⟨rfl,rfl,rfl,by decide+kernel,rfl,by decide+kernel,by decide+kernel⟩
theorem ui {f fT:Addr} {fd fdT:FuncData} (F:Qa K "_law_numbers" "_law_numbers" yW f fd) (B:JF mg) (hT:jC K mg "_law_take" Zb ["_law_source_here","_law_many"] fT fdT):qp P w K mg base q5 2 f fd xf (wo K):=by
 have GT:qp P w K mg base q5 1 fT fdT ["_law_source_here","_law_many"] Q7:=Jn hT.fn
 refine F.okJ zk (λvs H Q E h=>?_) (λcdv A outer s H vs Q E hr h=>?_)
 . obtain⟨d,l,ps,rs,n,sd,t,rfl,_⟩:=h
   rfl
 . obtain⟨d,l,ps,rs,n,sd,t,rfl,g,hd,q⟩:=h
   refine⟨_,qh (qt (i:=2) zk.nd rfl (Or.inl rfl) (qO qe))
     (qh (qt (i:=3) zk.nd rfl (Or.inl rfl) (qW jg (qO (qb (qP hT GT hr (by rfl) (qb (jv 0) (qb qj qe))) (qb (VP YU qj) (qb (VP YU qj) (qb (VP YU qj) qe))))) (qP hT GT hr (by rfl) (qb (jv 0) (qb qj qe))) (λ_ _=>rfl)))
     (qh (qt (i:=4) zk.nd rfl (Or.inl rfl) (qW jG (qW jg (jv 1) qj (λ_ _=>rfl)) qj (λ_ _=>rfl)))
     (qh (qt (i:=5) zk.nd rfl (Or.inl rfl) (qW jg (qO (qb WT (qb qj (qb qx (qb (jl (qb qj (qb qx qe))) (qb (jl (qb (VP YU qj) (qb (jv 4) qe))) (qb (qO (qb qj (qb (jv 4) qe))) (qb (jl (qb qj (qb (jv 4) qe))) (qb qx qe))))))))) (qP hT GT hr (by rfl) (qb (jv 0) (qb qj qe))) (λ_ _=>rfl)))
     (qh (j0 PassesOwn.never rfl (jO (by rfl) B.rng (qb qj qe)) (qF (i:=6) zk.nd rfl (Or.inl rfl))
       (qh (qt (i:=7) zk.nd rfl (Or.inl rfl) (Xk (Qe qx (qP hT GT hr (by rfl) (qb (jv 0) (qb qj qe))) (Qe qx (qP hT GT hr (by rfl) (qb (jv 0) (qb qj qe))) (Qe qx qj Xf))) rfl rfl (by simp) (by decide)))
       (qh (qV (xJ (jv 7) (Xk (Qe qx (jv 3) (Qe qx (jv 5) Xf)) rfl rfl (by simp) (by decide)) ⟨rfl,rfl,rfl,rfl⟩))
       (ql (qV (Q0 PySem.F.plainAttrs_list PySem.F.slot_list_append PySem.F.type_list_append ju (jv 2) (qb (jv 7) qe)))))))
     (ql (qH (jv 2))))))),?_⟩
   have good:=g.good
   refine⟨by show 0<=sizeLine;decide,λln fln=>?_⟩
   have u1:=qk (o:=HO.lst []) fln
   have y1:upd H ln (.lst []) ln=some (.lst []):=qd
   generalize upd H ln (.lst [])=H1 at u1 y1
   have hd1:=u1 _ _ hd
   refine⟨_,rfl,d,12,n,sd,t,rfl,hd1,by decide,by decide,λr1 n1 t1 _ _=>?_⟩
   have hd2:upd H1 d (.dK (src n1 sd t1)) d=some (.dK (src n1 sd t1)):=qd
   have fr2:Fr H1 d (upd H1 d (.dK (src n1 sd t1))):=Fr.refl.at_d
   generalize upd H1 d (.dK (src n1 sd t1))=H2 at hd2 fr2
   refine⟨_,rfl,_,rfl,_,rfl,by show 4<=sizeLine;decide,λlo flo=>?_⟩
   have u3:=qk (o:=HO.lst [V.int r1,.int (-1),.int (-1),.int (-1)]) flo
   have y3:upd H2 lo (.lst [V.int r1,.int (-1),.int (-1),.int (-1)]) lo=some (.lst [V.int r1,.int (-1),.int (-1),.int (-1)]):=qd
   generalize upd H2 lo (.lst [V.int r1,.int (-1),.int (-1),.int (-1)])=H3 at u3 y3
   have hd3:=u3 _ _ hd2
   refine⟨_,rfl,d,4,n1,sd,t1,rfl,hd3,by decide,by decide,λr2 n2 t2 b0 b1=>?_⟩
   have hd4:upd H3 d (.dK (src n2 sd t2)) d=some (.dK (src n2 sd t2)):=qd
   have fr4:Fr H3 d (upd H3 d (.dK (src n2 sd t2))):=Fr.refl.at_d
   generalize upd H3 d (.dK (src n2 sd t2))=H4 at hd4 fr4
   have hoo:∃o:Int,Z9 [V.int r1,.int (-1),.int (-1),.int (-1)] r2=some (.int o):=by
     have:r2=0\/r2=1\/r2=2\/r2=3:=by omega
     rcases this with rfl | rfl | rfl | rfl
     . exact⟨_,rfl⟩
     . exact⟨_,rfl⟩
     . exact⟨_,rfl⟩
     . exact⟨_,rfl⟩
   obtain⟨o,eo⟩:=hoo
   refine⟨lo,_,r2,_,rfl,rfl,.of (ji fr4 hd3 y3 (λ_ z=>nomatch z)),eo,?_⟩
   have f14:Fr H1 d H4:=(fr2.same u3).trans fr4
   have g4:=(g.mono u1).fr' hd1 f14
   have yl4:=ji f14 hd1 y1 (λ_ z=>nomatch z)
   obtain⟨p0,hp0e⟩:∃p0,ps[0]?=some p0:=⟨ps[0]'(by rw[g.rows.1];exact g.pos),List.getElem?_eq_getElem _⟩
   obtain⟨p',q',r0,ep,_,hr0,hpt4,_⟩:=g4.rows.item (i:=0) (x:=.ref p0) (by rw[List.getElem?_map,hp0e];rfl)
   obtain rfl:=V.ref.inj ep
   have nz0:qN r0.1=true:=good.nm r0 hr0
   have ati:Z9 (ps.map V.ref) 0=some (.ref p0):=Zq (j:=0) (by rw[List.getElem?_map,hp0e];rfl)
   refine⟨_,rfl,l,_,0,_,rfl,rfl,.of g4.at_,ati,p0,_,0,_,rfl,rfl,.of hpt4,rfl,?_⟩
   refine⟨by show 2<=sizeLine;decide,λa1 f1=>?_⟩
   have o1:=qk (o:=HO.tup [V.int 0,.str (Str.ofString "nowhere0")]) f1
   have w1:upd H4 a1 (.tup [V.int 0,.str (Str.ofString "nowhere0")]) a1=some (.tup [V.int 0,.str (Str.ofString "nowhere0")]):=qd
   generalize upd H4 a1 (.tup [V.int 0,.str (Str.ofString "nowhere0")])=H5 at o1 w1
   refine⟨_,rfl,_,rfl,by show 2<=sizeLine;decide,λa2 f2=>?_⟩
   have o2:=qk (o:=HO.tup [V.int (-1),.str r0.1]) f2
   have w2:upd H5 a2 (.tup [V.int (-1),.str r0.1]) a2=some (.tup [V.int (-1),.str r0.1]):=qd
   generalize upd H5 a2 (.tup [V.int (-1),.str r0.1])=H6 at o2 w2
   refine⟨_,rfl,by show 2<=sizeLine;decide,λa3 f3=>?_⟩
   have o3:=qk (o:=HO.lst [V.int 0,.str r0.1]) f3
   have w3:upd H6 a3 (.lst [V.int 0,.str r0.1]) a3=some (.lst [V.int 0,.str r0.1]):=qd
   have n3:a3≠ln:=λz=>by rw[z,(o1.trans o2) _ _ yl4]at f3;cases f3
   generalize upd H6 a3 (.lst [V.int 0,.str r0.1])=H7 at o3 w3
   refine⟨_,rfl,by show 2<=sizeLine;decide,λa4 f4=>?_⟩
   have o4:=qk (o:=HO.tup [V.int 99,.str r0.1]) f4
   have w4:upd H7 a4 (.tup [V.int 99,.str r0.1]) a4=some (.tup [V.int 99,.str r0.1]):=qd
   generalize upd H7 a4 (.tup [V.int 99,.str r0.1])=H8 at o4 w4
   refine⟨by show 8<=sizeLine;decide,λa5 f5=>?_⟩
   have o5:=qk (o:=HO.lst [V.non,.int 5,.str (Str.ofString "truth"),.ref a1,.ref a2,.ref a3,.ref a4,.str (Str.ofString "truth")]) f5
   have w5:upd H8 a5 (.lst [V.non,.int 5,.str (Str.ofString "truth"),.ref a1,.ref a2,.ref a3,.ref a4,.str (Str.ofString "truth")]) a5=some (.lst [V.non,.int 5,.str (Str.ofString "truth"),.ref a1,.ref a2,.ref a3,.ref a4,.str (Str.ofString "truth")]):=qd
   generalize upd H8 a5 (.lst [V.non,.int 5,.str (Str.ofString "truth"),.ref a1,.ref a2,.ref a3,.ref a4,.str (Str.ofString "truth")])=H9 at o5 w5
   have p4:=o4.trans o5
   have p3:=o3.trans p4
   have p2:=o2.trans p3
   have p1:=o1.trans p2
   have hd9:=p1 _ _ hd4
   refine⟨_,rfl,d,8,n2,sd,t2,rfl,hd9,by decide,by decide,λr3 n3' t3 c0 c1=>?_⟩
   have hdv:upd H9 d (.dK (src n3' sd t3)) d=some (.dK (src n3' sd t3)):=qd
   have frv:Fr H9 d (upd H9 d (.dK (src n3' sd t3))):=Fr.refl.at_d
   generalize upd H9 d (.dK (src n3' sd t3))=HV at hdv frv
   have kv:∀{b:Addr} {ob:HO},H9 b=some ob->(∀kv,ob≠.dK kv)->b≠ln->Q5 (Q5 HV ln) d b=some ob:=λ{b ob} hb no nl=>Qd (Qd (ji frv hd9 hb no) nl) λz=>by
     rw[z,hd9]at hb
     exact no _ (Option.some.inj hb).symm
   have ln9:=p1 _ _ yl4
   have tk:∀{b:Addr} {ys:List V},H9 b=some (.tup ys)->Q5 (Q5 HV ln) d b=some (.tup ys):=λ{b ys} hb=>kv hb (λ_ z=>nomatch z) (λz=>by rw[z,ln9]at hb;cases hb)
   have ov:∃v dO,Z9 [V.non,.int 5,.str (Str.ofString "truth"),.ref a1,.ref a2,.ref a3,.ref a4,.str (Str.ofString "truth")] r3=some v/\Xw K (Q5 (Q5 HV ln) d) rs v dO:=by
     have tr:Xw K (Q5 (Q5 HV ln) d) rs (.str (Str.ofString "truth")) (.str (Str.ofString "truth")):=zy (.str _) Uf λhk _=>.ty (.str _) (RI K)
     have:r3=0\/r3=1\/r3=2\/r3=3\/r3=4\/r3=5\/r3=6\/r3=7:=by omega
     rcases this with rfl | rfl | rfl | rfl | rfl | rfl | rfl | rfl
     . exact⟨_,_,rfl,zy .non vz λhk _=>.ty .non (RJ K)⟩
     . exact⟨_,_,rfl,zy (.int 5) (J9 (n:=5) (by decide)) λhk _=>.ty (.int 5) (RL K)⟩
     . exact⟨_,_,rfl,tr⟩
     . refine⟨_,_,rfl,Y8 (tk (p2 _ _ w1)) (J9 (n:=0) (by decide)) XS.1 λhk ok m hm z=>?_⟩
       have:=Qr good ok.2 m hm
       rw[<-z.2,XS.2]at this
       cases this
     . refine⟨_,_,rfl,Y8 (tk (p3 _ _ w2)) wM (Q8 nz0) λhk ok m hm z=>?_⟩
       have:=z.1
       omega
     . exact⟨_,_,rfl,xw (kv (p4 _ _ w3) (λ_ z=>nomatch z) n3) (Q8 nz0)⟩
     . refine⟨_,_,rfl,Y8 (tk (o5 _ _ w4)) wO (Q8 nz0) λhk ok m hm z=>?_⟩
       have h1:=(Qm hm).1
       have h2:=ok.1
       have:=z.1
       omega
     . exact⟨_,_,rfl,tr⟩
   obtain⟨v,dO,ev,ov⟩:=ov
   refine⟨a5,_,r3,_,rfl,rfl,.of (ji frv hd9 w5 (λ_ z=>nomatch z)),ev,?_⟩
   have f4v:Fr H4 d HV:=λb ob hb nb=>frv _ _ (p1 _ _ hb) nb
   have f1v:Fr H1 d HV:=f14.trans f4v
   have fHv:Fr H d (Q5 HV ln):=λb ob hb nb=>Qd (f1v _ _ (u1 _ _ hb) nb) (qm hb fln)
   have lnv:=ji f1v hd1 y1 (λ_ z=>nomatch z)
   have ndl:d≠ln:=λz=>by rw[<-z,hd]at fln;cases fln
   refine⟨2,rfl,by decide,by decide,?_⟩
   refine QL (λi σ' X=>∃(v6 v7:Option V) (n' t':Int),σ'=[some (.ref d),some (.ref l),some (.ref ln),some (.int o),some (.str r0.1),some v,v6,v7]/\Fr (Q5 HV ln) d X/\X d=some (.dK (src n' sd t'))/\((i=0/\X ln=some (.lst []))\/(i=1/\∃(d0:Addr) (b0 m0:Int),X ln=some (.lst [.ref d0])/\X d0=some (.dK (jo b0 m0 0 o v))/\Q5 HV ln d0=none/\0<=b0/\b0<=1000/\d0≠ln/\d0≠d)\/(i=2/\∃(d0 d1:Addr) (b0 m0 b1 m1:Int),X ln=some (.lst [.ref d0,.ref d1])/\X d0=some (.dK (jo b0 m0 0 o v))/\X d1=some (.dK (jo b1 m1 0 o v))/\Q5 HV ln d0=none/\Q5 HV ln d1=none/\d0≠d1/\0<=b0/\b0<=1000/\0<=b1/\b1<=1000)))
     ⟨_,_,n3',t3,rfl,λb ob hb _=>Jh _ _ _ _ hb,hdv,.inl ⟨rfl,lnv⟩⟩ ?_ ?_
   . rintro i σ' X hi ⟨v6,v7,n',t',rfl,frX,hdX,st⟩
     have hi:i < 2:=by simpa using hi
     have lnX:∃xs,X ln=some (.lst xs)/\xs.length<=1:=by
       rcases st with ⟨_,z⟩ | ⟨_,d0,b0,m0,z,_⟩ | ⟨z,_⟩
       . exact⟨_,z,by decide⟩
       . exact⟨_,z,by show 1<=1;decide⟩
       . omega
     obtain⟨xs,hxs,lxs⟩:=lnX
     intro p fp
     have npd:p≠d:=λz=>by rw[z,hdX]at fp;cases fp
     have npl:p≠ln:=λz=>by rw[z,hxs]at fp;cases fp
     have hd5:upd X p (.dK []) d=some (.dK (src n' sd t')):=by rw[qg (Ne.symm npd)];exact hdX
     refine⟨_,rfl,d,1000,n',sd,t',rfl,hd5,by decide,by decide,λb nb tb bb0 bb1=>?_⟩
     refine⟨_,rfl,d,1000,nb,sd,tb,rfl,qd,by decide,by decide,λm nm tm mm0 mm1=>?_⟩
     refine⟨?_,[(Sum.inr (Str.ofString "by"),V.int b),(Sum.inr (Str.ofString "more"),V.int m),(Sum.inr (Str.ofString "asked"),V.int 0)],rfl,by show 3<=15;decide,?_⟩
     . rw[qg npd,qg npd]
       exact qd
     rw[uv]
     have fr6:∀{c:Addr} {ob:HO},X c=some ob->c≠d->upd (upd (upd (upd X p (.dK [])) d (.dK (src nb sd tb))) d (.dK (src nm sd tm))) p (.dK [(Sum.inr (Str.ofString "by"),V.int b),(Sum.inr (Str.ofString "more"),V.int m),(Sum.inr (Str.ofString "asked"),V.int 0)]) c=some ob:=λ{c ob} hc nc=>by
       have ncp:c≠p:=λz=>by rw[z,fp]at hc;cases hc
       rw[qg ncp,qg nc,qg nc,qg ncp]
       exact hc
     have hd6:upd (upd (upd (upd X p (.dK [])) d (.dK (src nb sd tb))) d (.dK (src nm sd tm))) p (.dK [(Sum.inr (Str.ofString "by"),V.int b),(Sum.inr (Str.ofString "more"),V.int m),(Sum.inr (Str.ofString "asked"),V.int 0)]) d=some (.dK (src nm sd tm)):=by rw[qg (Ne.symm npd)];exact qd
     have hp6:upd (upd (upd (upd X p (.dK [])) d (.dK (src nb sd tb))) d (.dK (src nm sd tm))) p (.dK [(Sum.inr (Str.ofString "by"),V.int b),(Sum.inr (Str.ofString "more"),V.int m),(Sum.inr (Str.ofString "asked"),V.int 0)]) p=some (.dK [(Sum.inr (Str.ofString "by"),V.int b),(Sum.inr (Str.ofString "more"),V.int m),(Sum.inr (Str.ofString "asked"),V.int 0)]):=qd
     generalize upd (upd (upd (upd X p (.dK [])) d (.dK (src nb sd tb))) d (.dK (src nm sd tm))) p (.dK [(Sum.inr (Str.ofString "by"),V.int b),(Sum.inr (Str.ofString "more"),V.int m),(Sum.inr (Str.ofString "asked"),V.int 0)])=X6 at fr6 hd6 hp6
     refine⟨_,rfl,p,rfl,.inl ⟨_,.inl hp6⟩,λp2 fp2=>⟨_,rfl,_,rfl,qd,[(Sum.inr (Str.ofString "odd at"),V.int o),(Sum.inr (Str.ofString "odd"),v)],rfl,by show 2<=15;decide,?_⟩⟩
     rw[uw,jN]
     have npp:p≠p2:=λz=>by rw[<-z,hp6]at fp2;cases fp2
     refine⟨p2,_,_,rfl,by rw[qg npp];exact hp6,qd,npp,by show 3+2<=sizeLine;decide,?_⟩
     rw[uu]
     have get7:∀{c:Addr} {ob:HO},X6 c=some ob->c≠p->upd (upd X6 p2 (.dK [(Sum.inr (Str.ofString "odd at"),V.int o),(Sum.inr (Str.ofString "odd"),v)])) p (.dK (jo b m 0 o v)) c=some ob:=λ{c ob} hc nc=>by
       rw[qg nc]
       exact qo hc fp2
     have hp7:upd (upd X6 p2 (.dK [(Sum.inr (Str.ofString "odd at"),V.int o),(Sum.inr (Str.ofString "odd"),v)])) p (.dK (jo b m 0 o v)) p=some (.dK (jo b m 0 o v)):=qd
     generalize upd (upd X6 p2 (.dK [(Sum.inr (Str.ofString "odd at"),V.int o),(Sum.inr (Str.ofString "odd"),v)])) p (.dK (jo b m 0 o v))=X7 at get7 hp7
     have get:∀{c:Addr} {ob:HO},X c=some ob->c≠d->X7 c=some ob:=λ{c ob} hc nc=>get7 (fr6 hc nc) (λz=>by rw[z,fp]at hc;cases hc)
     have hl7:=get hxs (Ne.symm ndl)
     refine⟨_,rfl,.inl ⟨rfl,_,.of hl7⟩,_,rfl,ln,_,_,rfl,rfl,hl7,qu (by omega),?_⟩
     have fpv:Q5 HV ln p=none:=by
       cases z:Q5 HV ln p with
       | none=>rfl
       | some ob=>rw[frX _ _ z npd]at fp;cases fp
     refine⟨_,_,nm,tm,rfl,λc ob hc nc=>?_,by rw[qg ndl];exact get7 hd6 (Ne.symm npd),?_⟩
     . have ncl:c≠ln:=λz=>by
         rw[z]at hc
         unfold Q5 at hc
         rw[if_pos rfl]at hc
         cases hc
       rw[qg ncl]
       exact get (frX _ _ hc nc) nc
     . rcases st with ⟨rfl,z⟩ | ⟨rfl,d0,b0,m0,z1,z2,z3,z4,z5,z6,z7⟩ | ⟨z,_⟩
       . obtain rfl:xs=[]:=by rw[z]at hxs;exact(HO.lst.inj (Option.some.inj hxs)).symm
         exact .inr (.inl ⟨rfl,p,b,m,qd,by rw[qg npl];exact hp7,fpv,bb0,by omega,npl,npd⟩)
       . obtain rfl:xs=[.ref d0]:=by rw[z1]at hxs;exact(HO.lst.inj (Option.some.inj hxs)).symm
         refine .inr (.inr ⟨rfl,d0,p,b0,m0,b,m,qd,by rw[qg z6];exact get z2 z7,by rw[qg npl];exact hp7,z3,fpv,λz=>?_,z4,z5,bb0,by omega⟩)
         rw[<-z,z2]at fp
         cases fp
       . omega
   . rintro σ' X ⟨v6,v7,n',t',rfl,frX,hdX,st⟩
     rcases st with ⟨z,_⟩ | ⟨z,_⟩ | ⟨_,d0,d1,b0,m0,b1,m1,z1,z2,z3,z4,z5,z6,z7,z8,z9,z10⟩
     . exact absurd z (by decide)
     . exact absurd z (by decide)
     . exact⟨_,rfl,q ln d0 d1 ⟨b0,m0,b1,m1,o,dO⟩ v n' t' (Q5 HV ln) X fHv frX z4 z5 z6 hdX z1 z2 z3 ⟨⟨z7,z8⟩,⟨z9,z10⟩,ov.sh⟩ ov⟩
end
end Rh
set_option Elab.async false
set_option linter.all false
set_option maxRecDepth 100000
set_option maxHeartbeats 4000000
namespace Rh
open PySem L2 PyProof.Rows
theorem zB {X:Hp} {l2:Addr} {ps:List Addr} {rs:jK} {CG:Addr} {R:Hp->Prop} (hl:X l2=some (.lst (ps.map V.ref))) (rat:jB X ps rs) (good:qI rs) (pos:0 < rs.length) (le14:rs.length<=14)
   {x dx:Addr} (hx:X x=none) (hdx:X dx=none) (ndx:dx≠x) {E:XK} (k:∀H4,Same X H4->Qt CG H4 x rs->R H4):
   ZZ CG [.ref x,.ref l2] (upd (upd X dx (.own x)) x (.ins CG dx [])) (λv H'=>v=.non/\R H') E:=by
 have s3:Same X (upd (upd X dx (.own x)) x (.ins CG dx [])):=λb u hb=>by
   rw[qg (qm hb hx),qg (qm hb hdx)]
   exact hb
 refine⟨x,dx,l2,ps,rs,rfl,⟨s3 _ _ hl,rat.mono s3,good,pos,le14⟩,qd,λH4 gr fr4=>⟨rfl,k H4 (λb u hb=>fr4 b u (s3 _ _ hb) (qm hb hx)) gr⟩⟩
abbrev JJ:Stmt:=top 50
abbrev Zw:Stmt:=(ja JJ).getD 1 (.Pass ⟨0,0,0,0⟩)
def JK:Str:=(Str.ofString "_law_long"++Str.ofString ".<locals>.")++Str.ofString "_law_player_here"
def zH:Str:=Str.ofString "here"
def zT:Str:=Str.ofString "there"
def Vy:jK:=[(zH,[zT]),(zT,[zH])]
def hz (k:Nat):Str:=if k % 2=0 then zH else zT
theorem wE:qI Vy:=⟨by decide+kernel,by decide+kernel,by decide+kernel,by decide+kernel,by decide+kernel⟩
theorem mvL (k:Nat):jV Vy [hz k] 1=[(0,hz (k+1))]:=by
 unfold hz
 rcases Nat.mod_two_eq_zero_or_one k with e | e
 . rw[if_pos e,if_neg (by omega)]
   decide+kernel
 . rw[if_neg (by omega),if_pos (by omega)]
   decide+kernel
theorem GK (k:Nat):QE Vy [hz k]:=⟨by show 1<=8;decide,λz hzz=>by
 rw[List.mem_singleton.mp hzz]
 unfold hz
 split
 . exact⟨_,List.mem_cons_self,rfl⟩
 . exact⟨_,List.mem_cons_of_mem _ List.mem_cons_self,rfl⟩⟩
def VL (n:Nat):List (Nat×Str):=(List.range n).map λk=>(0,hz (k+1))
theorem XU (n:Nat):VL (n+1)=VL n++[(0,hz (n+1))]:=by
 unfold VL
 rw[List.range_succ,List.map_append]
 rfl
theorem VJ (n:Nat):(VL n).length=n:=by unfold VL;rw[List.length_map,List.length_range]
def wj:Sp:=λvs H Q _=>∃(hp:Addr) (k:Nat),vs=[.ref hp]/\H hp=some (.lst [.str (hz k)])/\∀H' p,Same H H'->H' p=some (.tup (kr (0,hz (k+1))))->Q (.ref p) H'
abbrev Ku (PL f:Addr) (fd:FuncData):Sp:=λvs H Q E=>∃ws,vb H PL f "_law_player_here" JK Zw fd ws/\(ws=[]/\wj vs H Q E)
def CPL (PL:Addr) (f:Addr) (fd:FuncData) (sp:Sp):Prop:=(∃(doc pm ctv:Value) (c':Addr) (cl:List (Str×Addr)),fd=PySem.W.fnX "_law_player_here" JK (jA Zw) (ja Zw) (qi Zw) cl .none .none doc pm none (.ref c') ctv)/\sp=Ku PL f fd
def wl (CG PL:Addr):Sp:=λvs H Q _=>∃(g h f:Addr) (fd:FuncData),vs=[.ref g,.ref h,.ref f,.ref f,.int 1000]/\Qt CG H g Vy/\H h=some (.lst [.str zH])/\vb H PL f "_law_player_here" JK Zw fd []/\
 ∀H' t mo qs,Same H H'->H' t=some (.tup [.ref mo,.str (Str.ofString "open")])->H' mo=some (.lst (qs.map V.ref))->jf H' qs (VL 1000)->Q (.ref t) H'
def vt (PL:Addr) (qL:Str):Sp:=λvs H Q _=>vs=[]/\H PL=some (.tbl #[.str qL 0])/\∀H',Q (.bl true) H'
section
variable {P:Program} {w:World} {K:PySem.W.Frag} {mg:Str->Option Value} {base:Heap}
theorem Kx:Ya ["_law_heap_here"] ["_law_heap_here"] [] (qi Zw):=⟨rfl,rfl,rfl,by decide+kernel,rfl,by decide+kernel,by decide+kernel,by decide+kernel,by decide+kernel⟩
theorem ug {PL f:Addr} {fd:FuncData} (B:JF mg):qp P w K mg base q5 1 f fd ["_law_heap_here"] (Ku PL f fd):=by
 refine yh (PT:=PL) (name:="_law_player_here") (qual:=JK) (st:=Zw) (fr:=[]) (sp:=λws vs H Q E=>ws=[]/\wj vs H Q E) Kx (λws vs H Q E h=>?_) (λc' cl A outer s H ws vs Q E hr h=>?_)
 . obtain⟨rfl,hp,k,rfl,_⟩:=h
   exact⟨rfl,rfl⟩
 . obtain⟨rfl,hp,k,rfl,hh,q⟩:=h
   refine⟨_,ql (qH (jl (qb qj (qb (qW jg (qO (qb qx (qb qx qe))) (qR ZG (by rfl) B.int boot_int (qb (Qn (Y6 hr.units) (jv 0) (qO (qb qx qe)) (qy _)) qe)) (λ_ _=>rfl)) qe)))),?_⟩
   refine⟨by show 2<=sizeLine;decide,λlz flz=>?_⟩
   have u1:=qk (o:=HO.lst [V.str (Str.ofString "here"),.str (Str.ofString "there")]) flz
   have y1:upd H lz (.lst [V.str (Str.ofString "here"),.str (Str.ofString "there")]) lz=some (.lst [V.str (Str.ofString "here"),.str (Str.ofString "there")]):=qd
   generalize upd H lz (.lst [V.str (Str.ofString "here"),.str (Str.ofString "there")])=H1 at u1 y1
   refine⟨_,rfl,by show 1<=sizeLine;decide,λly fly=>?_⟩
   have u2:=qk (o:=HO.lst [V.str (Str.ofString "here")]) fly
   have y2:upd H1 ly (.lst [V.str (Str.ofString "here")]) ly=some (.lst [V.str (Str.ofString "here")]):=qd
   generalize upd H1 ly (.lst [V.str (Str.ofString "here")])=H2 at u2 y2
   have s12:=u1.trans u2
   have hk:PySem.SeqAt.shaped (.list [.str (hz k)])=true/\∃b,PyData.eqv (.list [.str (hz k)]) (.list [.str (Str.ofString "here")])=b/\Z9 [V.str (Str.ofString "here"),.str (Str.ofString "there")] (if b=true then 1 else 0)=some (.str (hz (k+1))):=by
     unfold hz
     rcases Nat.mod_two_eq_zero_or_one k with e | e
     . rw[if_pos e,if_neg (by omega)]
       exact⟨by decide+kernel,true,by decide+kernel,rfl⟩
     . rw[if_neg (by omega),if_pos (by omega)]
       exact⟨by decide+kernel,false,by decide+kernel,rfl⟩
   obtain⟨sh,b,eb,at_⟩:=hk
   refine⟨.list [.str (hz k)],.list [.str (Str.ofString "here")],.lst (.of (s12 _ _ hh)) (.cons (.str _) .nil),.lst (.of y2) (.cons (.str _) .nil),sh,by decide+kernel,.inr ⟨_,rfl,lz,_,_,_,rfl,rfl,.of (u2 _ _ y1),by rw[eb];exact at_,by show 2<=sizeLine;decide,λtp ftp=>?_⟩⟩
   exact q _ tp (s12.trans (qk ftp)) qd
theorem yg {PL:Addr} (B:JF mg):∀f fd sp,CPL PL f fd sp->qp P w K mg base q5 1 f fd ["_law_heap_here"] sp/\jE K fd ["_law_heap_here"] []:=by
 rintro f fd sp ⟨⟨doc,pm,ctv,c',cl,rfl⟩,rfl⟩
 exact⟨ug B,.all λus hl=>by obtain⟨_,rfl⟩:=Zi hl;rfl⟩
theorem WM {f fH fQ fO fA fW CG PL:Addr} {fd fdH fdQ fdO fdA fdW:FuncData} (F:Qa K "played" "played" QQ f fd) (B:JF mg) (G:Qi mg) (T:Qh K mg) (M:GM K mg CG) (Z:HM K mg) (hQ:jC K mg "need_place" Jb xB fQ fdQ) (hH:jC K mg "need_heap" JQ ["ground","heap"] fH fdH)
   (hO:jC K mg "is_over" Yp ["ground","heap"] fO fdO) (hA:jC K mg "after" JR yq fA fdA) (hW:jC K mg "who_won" Uj ["made"] fW fdW):qp P w K mg base q5 7 f fd xc (wl CG PL):=by
 have GH:qp P w K mg base q5 3 fH fdH ["ground","heap"] (Jk CG):=Jd hH.fn B G T M hQ Z.mt
 have GO:qp P w K mg base q5 5 fO fdO KQ (YV CG):=VG hO.fn B G T M Z
 have GA:qp P w K mg base q5 6 fA fdA yq (J8 CG):=XR hA.fn B G T M Z
 have GW:qp P w K mg base q5 1 fW fdW ["made"] vo:=ka hW.fn
 refine F.okJ ZS (λvs H Q E h=>?_) (λcdv A outer s H vs Q E hr h=>?_)
 . obtain⟨g,h',f',fd',rfl,_⟩:=h
   rfl
 . obtain⟨g,h',f',fd',rfl,gr,hh,cl,q⟩:=h
   have r1:qY 1 _:=hr.mono (by decide)
   have r3:qY 3 _:=hr.mono (by decide)
   have r5:qY 5 _:=hr.mono (by decide)
   refine⟨_,qh (qV (qP hH GH r3 (by rfl) (qb (jv 0) (qb (jv 1) qe))))
     (qh (qt (i:=5) ZS.nd rfl (Or.inl rfl) (qR qT (by rfl) G.lst boot_list (qb (jv 1) qe)))
     (qh (qt (i:=6) ZS.nd rfl (Or.inl rfl) (qO qe))
     (qh (zI PassesOwn.never (JW.pt (jR (qv j3 (qw qz (by rfl) B.len boot_len (qb (jv 6) qe)) (jv 4) (qy _)) (jI (Qg (jS (qP hO GO r5 (by rfl) (qb (jv 0) (qb (jv 5) qe))))))))
         (qh (qt (i:=7) ZS.nd rfl (Or.inl rfl) (XX (qv j6 (qM jQ (qw qz (by rfl) B.len boot_len (qb (jv 6) qe)) qj) qj (qy _)) (jv 2) (jv 3)))
         (qh (qt (i:=8) ZS.nd rfl (Or.inl rfl) (XY (C:=CPL PL) (x:="player") (i:=7) rfl (Or.inl rfl) (λf fd sp c=>⟨1,_,(yg B f fd sp c).1,r1,(yg (P:=P) (w:=w) (mg:=mg) (base:=base) B f fd sp c).2⟩) (jx.s Zg) (qb (qR qT (by rfl) G.lst boot_list (qb (jv 5) qe)) qe)))
         (qh (qt (i:=5) ZS.nd rfl (Or.inl rfl) (qP hA GA hr (by rfl) (qb (jv 0) (qb (jv 5) (qb (jv 8) qe)))))
         (ql (qV (Q0 PySem.F.plainAttrs_list PySem.F.slot_list_append PySem.F.type_list_append ju (jv 6) (qb (jv 8) qe))))))))
     (qh (jd (jS (qP hO GO r5 (by rfl) (qb (jv 0) (qb (jv 5) qe)))) qZ qD)
     (ql (qH (jl (qb (jv 6) (qb qx qe))))))))),?_⟩
   have good:=wE
   have le14:Vy.length<=14:=by show 2<=14;decide
   have hhp:jH H h' Vy [hz 0]:=⟨hh,(GK 0).1,(GK 0).2⟩
   refine⟨_,rfl,_,rfl,g,h',Vy,[hz 0],rfl,gr,hhp,λH1 s1=>?_⟩
   refine⟨_,rfl,h',_,rfl,.inl (.of (s1 _ _ hh)),λno hno=>⟨by show 0<=sizeLine;decide,λmo hmo=>?_⟩⟩
   have u2:=qk (o:=HO.lst [V.str zH]) hno
   have v2:upd H1 no (.lst [V.str zH]) no=some (.lst [V.str zH]):=qd
   generalize upd H1 no (.lst [V.str zH])=H2 at u2 v2 hmo
   have u3:=qk (o:=HO.lst []) hmo
   have v3:upd H2 mo (.lst []) mo=some (.lst []):=qd
   have f2:=s1.trans u2
   have fmo:H mo=none:=by
     cases z:H mo with
     | none=>rfl
     | some o=>rw[f2 _ _ z]at hmo;cases hmo
   have nmn:no≠mo:=λz=>by rw[<-z,v2]at hmo;cases hmo
   generalize upd H2 mo (.lst [])=H3 at u3 v3
   have s03:=f2.trans u3
   refine⟨λm σ' X=>∃(i:Nat) (nw:Addr) (qs:List Addr) (v7 v8:Option V),i<=1000/\m=1000 - i/\σ'=[some (.ref g),some (.ref h'),some (.ref f'),some (.ref f'),some (.int 1000),some (.ref nw),some (.ref mo),v7,v8]/\Same H X/\X nw=some (.lst [.str (hz i)])/\nw≠mo/\X mo=some (.lst (qs.map V.ref))/\jf X qs (VL i),
     ⟨1000,0,no,[],none,none,Nat.zero_le _,rfl,rfl,s03,u3 _ _ v2,nmn,v3,jf.nil _⟩,?_⟩
   rintro m σ' X ⟨i,nw,qs,v7,v8,hi,rfl,rfl,sX,hnw,n2,hmoX,mv⟩
   have lq:=mv.1
   rw[VJ]at lq
   have hat:jH X nw Vy [hz i]:=⟨hnw,(GK i).1,(GK i).2⟩
   have em:jV Vy [hz i] [hz i].length=[(0,hz (i+1))]:=mvL i
   refine⟨_,rfl,mo,_,rfl,.inl (.of hmoX),_,rfl,_,_,rfl,rfl,_,rfl,?_⟩
   rcases Nat.lt_or_ge i 1000 with c | c
   . refine jr (decide_eq_true (by rw[List.length_map,lq];omega)) ?_
     refine⟨_,rfl,_,rfl,g,nw,Vy,_,rfl,gr.mono sX,good,le14,hat,λX4 s4=>⟨_,rfl,?_⟩⟩
     rw[em]
     refine jr rfl ⟨λσ' X=>∃(nw:Addr) (qs:List Addr) (v7 v8:Option V),σ'=[some (.ref g),some (.ref h'),some (.ref f'),some (.ref f'),some (.int 1000),some (.ref nw),some (.ref mo),v7,v8]/\Same H X/\X nw=some (.lst [.str (hz (i+1))])/\nw≠mo/\X mo=some (.lst (qs.map V.ref))/\jf X qs (VL (i+1)),λσ' X ⟨nw,qs,v7,v8,a1,a2,a3,a4,a5,a6⟩=>⟨1000 - (i+1),by omega,i+1,nw,qs,v7,v8,c,rfl,a1,a2,a3,a4,a5,a6⟩,?_⟩
     have s04:=sX.trans s4
     refine⟨_,rfl,mo,_,rfl,.inl (.of (s4 _ _ hmoX)),_,_,rfl,rfl,(by show (0:Int) < 2;decide),rfl,_,rfl,?_⟩
     refine(λ(h:_)=>WU (λ_=>⟨_,rfl,h⟩) (λ_=>⟨_,rfl,h⟩)) ?_
     obtain⟨doc,pm,ctv,c',cl2,oc,efd,hf,hcd,rest⟩:=cl.ex
     refine⟨f',fd',_,rfl,⟨⟨doc,pm,ctv,c',cl2,efd⟩,rfl⟩,s04 _ _ hf,_,rfl,nw,_,rfl,.inl (.of (s4 _ _ hnw)),λl2 hl2=>?_⟩
     have u5:=qk (o:=HO.lst [V.str (hz i)]) hl2
     have y5:upd X4 l2 (.lst [V.str (hz i)]) l2=some (.lst [V.str (hz i)]):=qd
     generalize upd X4 l2 (.lst [V.str (hz i)])=X5 at u5 y5
     have s45:=s4.trans u5
     have s05:=s04.trans u5
     refine⟨s05 _ _ hf,[],cl.mono (λb o u z=>s05 _ _ z),rfl,l2,i,rfl,y5,λX6 p s6 hp6=>?_⟩
     have s46:=s45.trans s6
     have s06:=s05.trans s6
     refine⟨_,rfl,_,rfl,_,rfl,g,nw,p,Vy,[hz i],(0,hz (i+1)),rfl,gr.mono s06,good,le14,hat.mono s46,hp6,by rw[em];exact List.mem_cons_self,λX7 a7 s7 na7 h7=>?_⟩
     have hmo6:=s46 _ _ hmoX
     have hmo7:=s7 _ _ hmo6
     refine⟨_,rfl,.inl ⟨rfl,_,.of hmo7⟩,_,rfl,mo,_,_,rfl,rfl,hmo7,by rw[List.length_map,lq];exact qu (by omega),?_⟩
     have nm:a7≠mo:=λz=>by rw[z,hmo6]at na7;cases na7
     refine⟨a7,qs++[p],_,_,rfl,λb o hb=>?_,?_,nm,?_,?_⟩
     . rw[qg (qm hb fmo)]
       exact s7 _ _ (s06 _ _ hb)
     . rw[qg nm]
       exact h7
     . rw[qd,List.map_append]
       rfl
     . rw[XU]
       exact((mv.mono (s46.trans s7)).app (.one (s7 _ _ hp6))).lst hmo7
   . have ei:i=1000:=by omega
     subst ei
     refine jk (decide_eq_false (by rw[List.length_map,lq];omega)) (jP ?_)
     refine⟨_,rfl,_,rfl,g,nw,Vy,_,rfl,gr.mono sX,good,le14,hat,λX5 s5=>⟨_,rfl,?_⟩⟩
     rw[em]
     refine jk rfl ⟨_,rfl,by show 2<=sizeLine;decide,λt ht=>?_⟩
     have st:=s5.trans (qk (o:=HO.tup [V.ref mo,.str (Str.ofString "open")]) ht)
     exact q _ t mo qs (sX.trans st) qd (st _ _ hmoX) (mv.mono st)
abbrev nLo:List Str:=["_law_ground","_law_player_here","_law_moves_here","_law_ending"]
theorem vF:qA nLo [] (qi JJ):=⟨rfl,rfl,rfl,by decide+kernel,rfl,by decide+kernel,by decide+kernel⟩
theorem xp {f c PL fP CG fW:Addr} {fd fdP fdW:FuncData} (F:Qa K "_law_long" "_law_long" JJ f fd) (hc:fd.code=.ref c) (TM:Xt mg base c PL) (B:JF mg) (G:Qi mg) (T:Qh K mg) (N:yo K mg) (M:GM K mg CG) (hW:jC K mg "need_rows" Yq ["rows"] fW fdW) (hP:jC K mg "played" QQ xc fP fdP) (GP:qp P w K mg base q5 7 fP fdP xc (wl CG PL)):qp P w K mg base q5 8 f fd [] (vt PL JK):=by
 obtain⟨fI,fdI,C⟩:=M.cls
 have GI:qp P w K mg base q5 6 fI fdI ["self","rows"] (ZZ CG):=XQ C B G T N hW
 refine F.okB hc vF (λvs H Q E h=>?_) (λA outer s H vs Q E hr h=>?_)
 . obtain⟨rfl,_⟩:=h
   rfl
 . obtain⟨rfl,htb,q⟩:=h
   refine⟨_,xb (qt (i:=0) vF.nd rfl (Or.inl rfl) (VQ C.mkr GI hr (by rfl) C.ns C.bi .nil Zg (qb (qO (qb (jl (qb qx (qb (jl (qb qx qe)) qe))) (qb (jl (qb qx (qb (jl (qb qx qe)) qe))) qe))) qe)))
     (vU (i:=1) (c:=c) (P:=PL) (qual:=JK) TM vF.nd rfl rfl rfl rfl rfl (λ_=>rfl) rfl rfl rfl (wA (qh
     (Xe (qP hP GP hr (by rfl) (qb (jv 0) (qb (qO (qb qx qe)) (qb (jv 1) (qb (jv 1) (qb qj qe)))))) (JV rfl (jq (qF (i:=2) vF.nd rfl (Or.inl rfl) (hf:=Or.inr rfl)) (jq (qF (i:=3) vF.nd rfl (Or.inl rfl) (hf:=Or.inr rfl)) QT))))
     (ql (qH (Xl (Qn (ud hr.units) (jv 2) (Zk (N':=["_law_k"]) (ix:=[none]) (te:=yF (jc (tC (.int 0)) (jc (Xx (vL K) (vh (jc (tC (.str (Str.ofString "there"))) (jc (tC (.str (Str.ofString "here"))) Qk))) (Xx (rI (λ_ j=>0 < j) λi j=>.int (i % j)) (jt 0) (tC (.int 2)))) Qk))) rfl ⟨rfl,rfl,rfl,rfl,rfl⟩ (jO (by rfl) B.rng (qb qj qe)) (λC s2 H2 fp pins=>
         ⟨qF (i:=0) (yp _) rfl (Or.inl rfl),Qc,jl (qb qj (qb (qW jg (qO (qb qx (qb qx qe))) (qM jQ (jv 0) qj) (λ_ _=>rfl)) qe))⟩)) (qy _)) (Xj (Qn j6 (jv 3) qx (qy _))))))))),?_⟩
   refine⟨by show 1<=sizeLine;decide,λq1 f1=>?_⟩
   have o1:=qk (o:=HO.tup [V.str (Str.ofString "there")]) f1
   have w1:upd H q1 (HO.tup [V.str (Str.ofString "there")]) q1=some (HO.tup [V.str (Str.ofString "there")]):=qd
   generalize upd H q1 (HO.tup [V.str (Str.ofString "there")])=X1 at o1 w1
   refine⟨by show 2<=sizeLine;decide,λp1 f2=>?_⟩
   have o2:=qk (o:=HO.tup [V.str (Str.ofString "here"),.ref q1]) f2
   have w2:upd X1 p1 (HO.tup [V.str (Str.ofString "here"),.ref q1]) p1=some (HO.tup [V.str (Str.ofString "here"),.ref q1]):=qd
   generalize upd X1 p1 (HO.tup [V.str (Str.ofString "here"),.ref q1])=X2 at o2 w2
   refine⟨by show 1<=sizeLine;decide,λq2 f3=>?_⟩
   have o3:=qk (o:=HO.tup [V.str (Str.ofString "here")]) f3
   have w3:upd X2 q2 (HO.tup [V.str (Str.ofString "here")]) q2=some (HO.tup [V.str (Str.ofString "here")]):=qd
   generalize upd X2 q2 (HO.tup [V.str (Str.ofString "here")])=X3 at o3 w3
   refine⟨by show 2<=sizeLine;decide,λp2 f4=>?_⟩
   have o4:=qk (o:=HO.tup [V.str (Str.ofString "there"),.ref q2]) f4
   have w4:upd X3 p2 (HO.tup [V.str (Str.ofString "there"),.ref q2]) p2=some (HO.tup [V.str (Str.ofString "there"),.ref q2]):=qd
   generalize upd X3 p2 (HO.tup [V.str (Str.ofString "there"),.ref q2])=X4 at o4 w4
   refine⟨by show 2<=sizeLine;decide,λl2 f5=>?_⟩
   have o5:=qk (o:=HO.lst [V.ref p1,.ref p2]) f5
   have w5:upd X4 l2 (HO.lst [V.ref p1,.ref p2]) l2=some (HO.lst [V.ref p1,.ref p2]):=qd
   generalize upd X4 l2 (HO.lst [V.ref p1,.ref p2])=X5 at o5 w5
   have s5:=(((o1.trans o2).trans o3).trans o4).trans o5
   have rat:jB X5 [p1,p2] Vy:=by
     refine⟨rfl,λi p r e1 e2=>?_⟩
     match i,e1,e2 with
     | 0,e1,e2=>
       obtain rfl:p1=p:=Option.some.inj e1
       obtain rfl:(zH,[zT])=r:=Option.some.inj e2
       exact⟨q1,((o3.trans o4).trans o5) _ _ w2,(((o2.trans o3).trans o4).trans o5) _ _ w1⟩
     | 1,e1,e2=>
       obtain rfl:p2=p:=Option.some.inj e1
       obtain rfl:(zT,[zH])=r:=Option.some.inj e2
       exact⟨q2,o5 _ _ w4,(o4.trans o5) _ _ w3⟩
     | n+2,e1,e2=>cases e1
   intro x dx hx hdx ndx
   refine zB (X:=X5) (ps:=[p1,p2]) (rs:=Vy) w5 rat wE (by show 0 < 2;decide) (by show 2<=14;decide) hx hdx ndx λH9 s9 gr9=>?_
   have s09:=s5.trans s9
   refine⟨⟨0,s09 _ _ htb⟩,λf' c' doc pm ctv oc H10 mk=>?_⟩
   have s10:=mk.same
   have cl:vb H10 PL f' "_law_player_here" JK Zw (PySem.W.fnX "_law_player_here" JK (jA Zw) (ja Zw) (qi Zw) (qS (jL q5 P w K mg base nLo "_law_long" (qi JJ) f (.ref c) A outer s H E).env (qi Zw).names []) .none .none doc pm none (.ref c') ctv) []:=by
     refine⟨doc,pm,ctv,c',_,oc,rfl,mk.fn,mk.cd,mk.cq,mk.inj,λy cc e=>?_,λy v' hy=>by cases hy⟩
     rcases j2 e with z | ⟨z,_⟩
     . simp at z
     . have:∀y∈(qi Zw).names,y.2=.free->y.1∈([]:List Str):=by decide+kernel
       exact this _ z rfl
   refine⟨_,rfl,by show 1<=sizeLine;decide,λhl fl=>?_⟩
   have u1:=qk (o:=HO.lst [V.str (Str.ofString "here")]) fl
   have y1:upd H10 hl (.lst [V.str (Str.ofString "here")]) hl=some (.lst [V.str (Str.ofString "here")]):=qd
   generalize upd H10 hl (.lst [V.str (Str.ofString "here")])=H11 at u1 y1
   refine⟨_,rfl,_,rfl,x,hl,f',_,rfl,gr9.mono (s10.trans u1),y1,cl.mono (λb o u z=>u1 _ _ z),λH12 t mo qs s12 ht hmo mv=>?_⟩
   refine⟨t,_,rfl,.of ht,rfl,_,_,rfl,_,_,rfl,rfl,?_⟩
   refine⟨_,rfl,1000,rfl,by decide,by decide,λD2 fD=>?_⟩
   refine Jv (λi σ' Y=>∃(v0:Option V) (us:List Addr),σ'=[v0]/\Same H12 Y/\Y D2=some (.lst (us.map V.ref))/\jf Y us (VL i)) ⟨none,[],rfl,qk fD,qd,jf.nil _⟩ ?_ ?_
   . rintro i σ' Y hi ⟨v0,us,rfl,sY,hY,mvY⟩
     rw[Int.zero_add]
     have hi:i < 1000:=by simpa using hi
     have lu:=mvY.1
     rw[VJ]at lu
     refine⟨by show 2<=sizeLine;decide,λlz flz=>?_⟩
     have a1:=qk (o:=HO.lst [V.str (Str.ofString "there"),.str (Str.ofString "here")]) flz
     have b1:upd Y lz (.lst [V.str (Str.ofString "there"),.str (Str.ofString "here")]) lz=some (.lst [V.str (Str.ofString "there"),.str (Str.ofString "here")]):=qd
     generalize upd Y lz (.lst [V.str (Str.ofString "there"),.str (Str.ofString "here")])=Y1 at a1 b1
     have eat:Z9 [V.str (Str.ofString "there"),.str (Str.ofString "here")] ((i:Int) % 2)=some (.str (hz (i+1))):=by
       unfold hz
       rcases Nat.mod_two_eq_zero_or_one i with e | e
       . rw[show (i:Int) % 2=0 by omega,if_neg (by omega)]
         rfl
       . rw[show (i:Int) % 2=1 by omega,if_pos (by omega)]
         rfl
     refine⟨_,rfl,_,_,rfl,rfl,(by show (0:Int) < 2;decide),lz,_,_,_,rfl,rfl,.of b1,eat,by show 2<=sizeLine;decide,λtp ftp=>?_⟩
     have a2:=qk (o:=HO.tup [V.int 0,.str (hz (i+1))]) ftp
     have b2:upd Y1 tp (.tup [V.int 0,.str (hz (i+1))]) tp=some (.tup (kr (0,hz (i+1)))):=qd
     generalize upd Y1 tp (.tup [V.int 0,.str (hz (i+1))])=Y2 at a2 b2
     have a12:=a1.trans a2
     have hY2:=a12 _ _ hY
     refine⟨_,hY2,by rw[List.length_map,lu];exact qu (by omega),_,us++[tp],rfl,Same.upd (sY.trans a12) fD,?_,?_⟩
     . rw[qd,List.map_append]
       rfl
     . rw[XU]
       exact((mvY.mono a12).app (.one b2)).lst hY2
   . rintro σ' Y ⟨v0,us,rfl,sY,hY,mvY⟩
     have al:∀m∈VL 1000,m.1 < 9/\qN m.2=true:=λm hm=>by
       unfold VL at hm
       obtain⟨k,_,rfl⟩:=List.mem_map.mp hm
       refine⟨by show 0 < 9;decide,?_⟩
       show qN (hz (k+1))=true
       unfold hz
       split<;>decide+kernel
     have sp:PySem.SeqAt.shaped (dM (VL 1000))=true:=by
       unfold PySem.SeqAt.shaped
       rw[Bool.and_eq_true]
       refine⟨Xq λm hm=>(al m hm).2,decide_eq_true ?_⟩
       have:=QO (ds:=(VL 1000).map mD) λd hd=>by
         obtain⟨m,hm,rfl⟩:=List.mem_map.mp hd
         exact WB (al m hm).1 (al m hm).2
       unfold dM
       simp only[PyData.depth]
       omega
     refine⟨dM (VL 1000),U9 (sY _ _ hmo) (mv.mono sY),U9 hY mvY,sp,_,rfl,Q3 ⟨_,rfl,rfl,?_⟩⟩
     have e:decide (V.str (Str.ofString "open")=V.str (Str.ofString "open"))=true:=decide_eq_true rfl
     rw[e]
     exact q Y
end
end Rh
set_option Elab.async false
set_option linter.all false
set_option maxRecDepth 100000
set_option maxHeartbeats 4000000
namespace Rh
open PySem L2 PyProof.Rows
theorem Ga {n jj:Int} (h0:0<=n) (h:(if (if (14:Int) < n then (14:Int) else n) > 3 then (if (14:Int) < n then (14:Int) else n) else 3)=jj):-(2^62)<=jj/\jj < 2^62:=by
 subst h
 split<;>split<;>omega
theorem yN {n s t:Int} {k:qQ} {q:Addr}:¬js (src n s t) k=some (.ref q):=λh=>by
 unfold src at h
 by_cases e1:(Sum.inr (Str.ofString "number"):qQ)=k
 . rw[qK e1]at h;cases h
 . rw[qG e1]at h
   by_cases e2:(Sum.inr (Str.ofString "seed"):qQ)=k
   . rw[qK e2]at h;cases h
   . rw[qG e2]at h
     by_cases e3:(Sum.inr (Str.ofString "turn"):qQ)=k
     . rw[qK e3]at h;cases h
     . rw[qG e3]at h;cases h
theorem zY {K:PySem.W.Frag} {H H':Hp} {p d:Addr} {ns:List Int} {kvs:List (qQ×V)} (h:SqL K H p (ns.map V.int)) (hd:H d=some (.dK kvs)) (f:Fr H d H'):SqL K H' p (ns.map V.int):=by
 rcases h with (h | ⟨o,h⟩) | h
 . exact .inl (.inl (f _ _ h (λe=>by rw[e,hd]at h;cases h)))
 . exact .inl (.inr ⟨o,f _ _ h (λe=>by rw[e,hd]at h;cases h)⟩)
 . exact .inr h
theorem Qt.frd {CG:Addr} {H H':Hp} {x d:Addr} {rs:jK} {n s t:Int} (h:Qt CG H x rs) (pos:0 < rs.length) (hd:H d=some (.dK (src n s t))) (fr:Fr H d H'):Qt CG H' x rs:=by
 obtain⟨dx',lo,rd,kvs,a1,a2,a3,a4⟩:=h
 have nrd:rd≠d:=λe=>by
   rw[e,hd]at a3
   obtain⟨r,hr'⟩:=List.exists_mem_of_length_pos pos
   obtain⟨q,a5,_⟩:=a4 r hr'
   rw[<-(HO.dK.inj (Option.some.inj a3))]at a5
   exact yN a5
 exact⟨dx',lo,rd,kvs,ji fr hd a1 (λ_ e=>nomatch e),ji fr hd a2 (λ_ e=>nomatch e),fr _ _ a3 nrd,λr hr'=>let ⟨q,b1,b2⟩:=a4 r hr';⟨q,b1,ji fr hd b2 (λ_ e=>nomatch e)⟩⟩
theorem K2 {r:Int} (h0:0<=r) (h1:r < 4):∃mo:Nat,Z9 [V.int 3,.int 5,.int 9,.int 14] r=some (.int (mo:Int))/\0 < mo/\mo<=14:=by
 have:r=0\/r=1\/r=2\/r=3:=by omega
 rcases this with rfl | rfl | rfl | rfl
 . exact⟨3,rfl,by decide,by decide⟩
 . exact⟨5,rfl,by decide,by decide⟩
 . exact⟨9,rfl,by decide,by decide⟩
 . exact⟨14,rfl,by decide,by decide⟩
theorem K1 {r:Int} (h0:0<=r) (h1:r < 3):∃mo:Nat,Z9 [V.int 2,.int 4,.int 8] r=some (.int (mo:Int))/\mo<=8:=by
 have:r=0\/r=1\/r=2:=by omega
 rcases this with rfl | rfl | rfl
 . exact⟨2,rfl,by decide⟩
 . exact⟨4,rfl,by decide⟩
 . exact⟨8,rfl,by decide⟩
theorem K0 {r:Int} (h0:0<=r) (h1:r < 8):∃mo:Nat,Z9 [V.int 31,.int 31,.int 31,.int 31,.int 31,.int 31,.int 5,.int 60] r=some (.int (mo:Int))/\0 < mo/\mo<=60:=by
 have:r=0\/r=1\/r=2\/r=3\/r=4\/r=5\/r=6\/r=7:=by omega
 rcases this with rfl | rfl | rfl | rfl | rfl | rfl | rfl | rfl
 . exact⟨31,rfl,by decide,by decide⟩
 . exact⟨31,rfl,by decide,by decide⟩
 . exact⟨31,rfl,by decide,by decide⟩
 . exact⟨31,rfl,by decide,by decide⟩
 . exact⟨31,rfl,by decide,by decide⟩
 . exact⟨31,rfl,by decide,by decide⟩
 . exact⟨5,rfl,by decide,by decide⟩
 . exact⟨60,rfl,by decide,by decide⟩
theorem Wm:∀{hh:List (List Str)} {k:Nat},(∀h∈hh,h.length<=8/\∀z∈h,qN z=true)->PyData.showableAll (QD k hh)=true/\PyData.depthAll (QD k hh)<=4/\((PyData.shownAll (QD k hh)).map (·.length)).sum<=1200*hh.length/\(PyData.shownAll (QD k hh)).length=hh.length
 | [],_,_=>⟨rfl,by rw[QD,PyData.depthAll];decide,Nat.le_refl _,rfl⟩
 | h::hh,k,a=>by
   obtain⟨c1,c2,c3,c4⟩:=Wm (k:=k+1) λy hy=>a y (List.mem_cons_of_mem _ hy)
   obtain⟨h8,hn⟩:=a h List.mem_cons_self
   obtain⟨a1,b1,e1,d1,l1⟩:=Yn hn
   have si:=J9 (n:=k % 2) (by omega)
   have i1:=VS (k % 2) (by omega)
   have ld:(dL h).shown.length<=1000:=by
     show (listText (PyData.shownAll (h.map PyData.str))).length<=1000
     have:=listText_len_le (PyData.shownAll (h.map PyData.str))
     omega
   have dd:(dL h).depth<=2:=by unfold dL;simp only[PyData.depth];omega
   refine⟨?_,?_,?_,?_⟩
   . rw[QD,PyData.showableAll,c1,Bool.and_true]
     show ((PyData.int ((k % 2:Nat):Int)).showable&&((dL h).showable&&true))=true
     rw[si.sh]
     show (true&&(PyData.showableAll (h.map PyData.str)&&true))=true
     rw[a1]
     rfl
   . rw[QD,PyData.depthAll]
     have:(PyData.tuple [.int ((k % 2:Nat):Int),dL h]).depth<=4:=by
       simp only[PyData.depth,PyData.depthAll]
       omega
     omega
   . rw[QD,PyData.shownAll,List.map_cons,List.sum_cons,List.length_cons]
     have:(PyData.tuple [.int ((k % 2:Nat):Int),dL h]).shown.length<=1200:=by
       show (tupleText [(PyData.int ((k % 2:Nat):Int)).shown,(dL h).shown]).length<=1200
       have h1:=tupleText_len_le [(PyData.int ((k % 2:Nat):Int)).shown,(dL h).shown]
       simp only[List.map_cons,List.map_nil,List.sum_cons,List.sum_nil,List.length_cons,List.length_nil]at h1
       omega
     omega
   . rw[QD,PyData.shownAll,List.length_cons,List.length_cons,c4]
theorem tl2 {a b:PyData} (ha:a.showable=true) (hb:b.showable=true) (da:a.depth<=20) (db:b.depth<=20) (la:a.shown.length<=150000) (lb:b.shown.length<=150000):(PyData.list [a,b]).showable=true/\(PyData.list [a,b]).depth<=60/\(PyData.list [a,b]).shown.length<=sizeLine:=by
 refine⟨?_,?_,?_⟩
 . show (a.showable&&(b.showable&&true))=true
   rw[ha,hb]
   rfl
 . simp only[PyData.depth,PyData.depthAll]
   omega
 . show (listText [a.shown,b.shown]).length<=sizeLine
   have h1:=listText_len_le [a.shown,b.shown]
   simp only[List.map_cons,List.map_nil,List.sum_cons,List.sum_nil,List.length_cons,List.length_nil]at h1
   exact Nat.le_trans (show _<=400000 by omega) (by decide)
theorem Ut {N:Nm} {rs:jK} {most:Nat} {hs:List Str} {d:PyData} (good:qI rs) (oks:QE rs hs) (m100:most<=60) (sw:N.d.showable=true) (sd:N.d.depth<=5) (sl:N.d.shown.length<=1000) (h:U6 N rs most hs d):d.showable=true/\d.depth<=60/\d.shown.length<=sizeLine:=by
 obtain⟨ms,fol,stp,res⟩:=h
 have le:=fol.le (Nat.zero_le _)
 rw[Nat.zero_add]at le
 have wk:=fol.wk
 have wn:=yz good oks wk
 have pk:∀x∈pre hs ms,x.length<=8/\∀z∈x,qN z=true:=λx hx=>let o:=wX good oks wk x hx;⟨o.1,o.names good⟩
 have lk:=oks.last good wk
 have lkn:=lk.names good
 have askd:∀{hh:List (List Str)},(∀h∈hh,h.length<=8/\∀z∈h,qN z=true)->hh.length<=61->(PyData.list (QD 0 hh)).showable=true/\(PyData.list (QD 0 hh)).depth<=20/\(PyData.list (QD 0 hh)).shown.length<=150000:=λ{hh} a l=>by
   obtain⟨c1,c2,c3,c4⟩:=Wm (k:=0) a
   refine⟨c1,by simp only[PyData.depth];omega,?_⟩
   show (listText (PyData.shownAll (QD 0 hh))).length<=150000
   have h1:=listText_len_le (PyData.shownAll (QD 0 hh))
   omega
 rcases res with ⟨od,x,du,ex,odd,rfl⟩ | ⟨_,rfl⟩
 . obtain⟨c1,c2,c3⟩:=askd (hh:=pre hs ms++[qX hs ms]) (λy hy=>by
     rcases List.mem_append.mp hy with z | z
     . exact pk y z
     . rw[List.mem_singleton.mp z];exact⟨lk.1,lkn⟩) (by rw[List.length_append,Jm,List.length_singleton];omega)
   have xm:=Ju ex
   have x1:=(Qm xm).1
   have l8:=lk.1
   have hdu:du.showable=true/\du.depth<=5/\du.shown.length<=1000:=by
     rcases odd with ⟨_,_,rfl⟩ | ⟨_,rfl⟩
     . have al:=yQ (wN (u4 x)) (Q8 (Qr good lk.2 x xm))
       refine⟨jY al,by simp only[PyData.depth,PyData.depthAll];decide,?_⟩
       show (tupleText (PyData.shownAll [.bool (u4 x),.str x.2])).length<=1000
       have h1:=tupleText_len_le (PyData.shownAll [.bool (u4 x),.str x.2])
       obtain⟨h2,h3⟩:=Qo al
       rw[show [PyData.bool (u4 x),.str x.2].length=2 from rfl]at h2 h3
       omega
     . exact⟨sw,sd,sl⟩
   have s7:(PyData.str (Str.ofString "no move")).shown.length<=20:=by decide+kernel
   refine tl2 ?_ c1 ?_ c2 ?_ c3
   . show (true&&(du.showable&&true))=true
     rw[hdu.1]
     rfl
   . simp only[PyData.depth,PyData.depthAll]
     omega
   . show (listText [(PyData.str (Str.ofString "no move")).shown,du.shown]).length<=150000
     have h1:=listText_len_le [(PyData.str (Str.ofString "no move")).shown,du.shown]
     simp only[List.map_cons,List.map_nil,List.sum_cons,List.sum_nil,List.length_cons,List.length_nil]at h1
     omega
 . obtain⟨c1,c2,c3⟩:=askd pk (by rw[Jm];omega)
   have al:∀d∈ms.map mD,Yb d:=λd hd=>by
     obtain⟨m,hm,rfl⟩:=List.mem_map.mp hd
     exact WB (wn m hm).1 (wn m hm).2
   have dd:=QO al
   have s7:(PyData.str (Str.ofString "played")).shown.length<=20:=by decide+kernel
   have s8:(PyData.str (Q4 rs hs ms)).shown.length<=20:=by
     unfold Q4
     split
     . split<;>decide+kernel
     . decide+kernel
   have ldm:(dM ms).shown.length<=100000:=by
     show (listText (PyData.shownAll (ms.map mD))).length<=100000
     have h1:=listText_len_le (PyData.shownAll (ms.map mD))
     obtain⟨h2,h3⟩:=Qo al
     rw[List.length_map]at h2 h3
     omega
   refine tl2 ?_ c1 ?_ c2 ?_ c3
   . show (true&&((dM ms).showable&&(true&&true)))=true
     rw[show (dM ms).showable=true from jY al]
     rfl
   . unfold dM
     simp only[PyData.depth,PyData.depthAll]
     omega
   . show (listText [(PyData.str (Str.ofString "played")).shown,(dM ms).shown,(PyData.str (Q4 rs hs ms)).shown]).length<=150000
     have h1:=listText_len_le [(PyData.str (Str.ofString "played")).shown,(dM ms).shown,(PyData.str (Q4 rs hs ms)).shown]
     simp only[List.map_cons,List.map_nil,List.sum_cons,List.sum_nil,List.length_cons,List.length_nil]at h1
     omega
def wL (K:PySem.W.Frag) (PT PL:Addr) (qL:Str):Sp:=λvs H Q _=>∃(a:Addr) (ns:List Int),vs=[.ref a]/\SqL K H a (ns.map V.int)/\ns.length<=63/\H PT=some (.tbl #[.str Zf 0])/\H PL=some (.tbl #[.str qL 0])/\∀H',Q (.bl true) H'
def UX (G:Hp) (a b:Addr):Hp:=Q5 (Q5 G a) b
theorem Zo {G:Hp} {a b e:Addr} {o:HO} (h:G e=some o) (n1:e≠a) (n2:e≠b):UX G a b e=some o:=Qd (Qd h n1) n2
theorem UW (G:Hp) (a b:Addr):Same (UX G a b) G:=(Jh _ _).trans (Jh _ _)
theorem yc (G:Hp) (a:Addr):Q5 G a a=none:=by unfold Q5;rw[if_pos rfl]
theorem Xu {K:PySem.W.Frag} {H:Hp} {p a:Addr} {ys:List V} {kv:List (qQ×V)} (h:SqL K H p ys) (ha:H a=some (.dK kv)):SqL K (Q5 H a) p ys:=by
 rcases h with (h | ⟨o,h⟩) | h
 . exact .inl (.inl (Qd h (λe=>by rw[e,ha]at h;cases h)))
 . exact .inl (.inr ⟨o,Qd h (λe=>by rw[e,ha]at h;cases h)⟩)
 . exact .inr h
theorem x2 {K:PySem.W.Frag} {H:Hp} {p a:Addr} {ys:List V} {kv:List (qQ×V)} (h:SqT K H p ys) (ha:H a=some (.dK kv)):SqT K (Q5 H a) p ys:=by
 rcases h with (h | ⟨o,h⟩) | h
 . exact .inl (.inl (Qd h (λe=>by rw[e,ha]at h;cases h)))
 . exact .inl (.inr ⟨o,Qd h (λe=>by rw[e,ha]at h;cases h)⟩)
 . exact .inr h
mutual
theorem W0 {K:PySem.W.Frag} {H:Hp} {a:Addr} {kv:List (qQ×V)} (ha:H a=some (.dK kv)):∀{x:V} {d:PyData},DV K H x d->DV K (Q5 H a) x d
 | _,_,.non=>.non
 | _,_,.bl b=>.bl b
 | _,_,.int i=>.int i
 | _,_,.str x=>.str x
 | _,_,.lst h hs=>.lst (Xu h ha) (dvs_del ha hs)
 | _,_,.tup h hs=>.tup (x2 h ha) (dvs_del ha hs)
theorem dvs_del {K:PySem.W.Frag} {H:Hp} {a:Addr} {kv:List (qQ×V)} (ha:H a=some (.dK kv)):∀{x:List V} {d:List PyData},DVs K H x d->DVs K (Q5 H a) x d
 | _,_,.nil=>.nil
 | _,_,.cons h hs=>.cons (W0 ha h) (dvs_del ha hs)
end
theorem xA (x:Str):(!decide (V.str x=V.str x))=false:=by rw[decide_eq_true rfl];rfl
section
variable {P:Program} {w:World} {K:PySem.W.Frag} {mg:Str->Option Value} {base:Heap}
abbrev RC:List Str:=["_law_script","_law_k","_law_source_here","_law_rows_here","_law_ground","_law_heap_here","_law_kept","_law_most","_law_numbers_here","_law_due_here","_law_found"]
theorem Q9:qA RC ["_law_script"] (qi YZ):=⟨rfl,rfl,rfl,by decide+kernel,rfl,by decide+kernel,by decide+kernel⟩
structure Gv (K:PySem.W.Frag) (mg:Str->Option Value):Prop where
 cell:∃f fd,jC K mg "_law_cell_at" Vw ["_law_script","_law_k"] f fd
 source:∃f fd,jC K mg "_law_source" Z0 ["_law_cell"] f fd
 take:∃f fd,jC K mg "_law_take" Zb ["_law_source_here","_law_many"] f fd
 names:∃f fd,jC K mg "_law_names" zm ["_law_source_here","_law_many"] f fd
 leads:∃f fd,jC K mg "_law_leads" zo zw f fd
 rows:∃f fd,jC K mg "_law_rows" Vs ["_law_source_here","_law_most"] f fd
 need:∃f fd,jC K mg "need_rows" Yq ["rows"] f fd
 heap:∃f fd,jC K mg "_law_heap" Y0 KS f fd
 moves:∃f fd,jC K mg "_law_moves" Jl wZ f fd
 choice:∃f fd,jC K mg "_law_choice" Qw va f fd
 due:∃f fd,jC K mg "_law_due" yY xg f fd
 told:∃f fd,jC K mg "_law_told" Vr GJ f fd
 num:∃f fd,jC K mg "_law_numbers" yW xf f fd
structure HD (K:PySem.W.Frag) (mg:Str->Option Value):Prop where
 ov:∃f fd,jC K mg "is_over" Yp ["ground","heap"] f fd
 af:∃f fd,jC K mg "after" JR yq f fd
 ww:∃f fd,jC K mg "who_won" Uj ["made"] f fd
 pd:∃f fd,jC K mg "played" QQ xc f fd
theorem uk {f fA c PT PL fLo CG D CM fX CH:Addr} {fd fdA fdX fdLo:FuncData} {qL:Str} (F:Qa K "law" "law" YZ f fd) (hA:jC K mg "_law_player" ZT XM fA fdA) (hc:fdA.code=.ref c) (TM:Xt mg base c PT) (B:JF mg) (G:Qi mg) (T:Qh K mg) (N:yo K mg) (M:GM K mg CG) (Z:HM K mg) (W:HD K mg) (L:Gv K mg) (hdi:mg "dict"=none) (xM:x4 K mg D "NoMove" "NoMove.__init__" Qv "found" CM fX fdX) (Y:uU K mg D CM CH)
   (hLo:jC K mg "_law_long" JJ [] fLo fdLo) (GLo:qp P w K mg base q5 8 fLo fdLo [] (vt PL qL)):qp P w K mg base q5 9 f fd ["_law_script"] (wL K PT PL qL):=by
 obtain⟨fO,fdO,hO⟩:=L.cell
 obtain⟨fL,fdL,hL⟩:=L.source
 obtain⟨fT,fdT,hT⟩:=L.take
 obtain⟨fN,fdN,hN⟩:=L.names
 obtain⟨fD,fdD,hD⟩:=L.leads
 obtain⟨fR,fdR,hR⟩:=L.rows
 obtain⟨fW,fdW,hW⟩:=L.need
 obtain⟨fH,fdH,hH⟩:=L.heap
 obtain⟨fM',fdM',hM⟩:=L.moves
 obtain⟨fC,fdC,hC⟩:=L.choice
 obtain⟨fDu,fdDu,hDu⟩:=L.due
 obtain⟨fTo,fdTo,hTo⟩:=L.told
 obtain⟨fNu,fdNu,hNu⟩:=L.num
 obtain⟨fOv,fdOv,hOv⟩:=W.ov
 obtain⟨fAf,fdAf,hAf⟩:=W.af
 obtain⟨fWw,fdWw,hWw⟩:=W.ww
 obtain⟨fPd,fdPd,hPd⟩:=W.pd
 obtain⟨fQ,fdQ,hQ⟩:=Z.pl
 obtain⟨fNh,fdNh,hNh⟩:=Z.nh
 obtain⟨fI,fdI,C⟩:=M.cls
 have GO:qp P w K mg base q5 1 fO fdO ["_law_script","_law_k"] (vy K):=xu hO.fn B
 have GL:qp P w K mg base q5 1 fL fdL ["_law_cell"] XE:=Uy hL.fn B
 have GT:qp P w K mg base q5 1 fT fdT ["_law_source_here","_law_many"] Q7:=Jn hT.fn
 have GR:qp P w K mg base q5 3 fR fdR ["_law_source_here","_law_most"] vq:=xn hR.fn B G hT hN hD
 have GI:qp P w K mg base q5 6 fI fdI ["self","rows"] (ZZ CG):=XQ C B G T N hW
 have GH:qp P w K mg base q5 2 fH fdH KS Vp:=kh hH.fn B hT
 have GC:qp P w K mg base q5 2 fC fdC va (QH K):=Yw hC.fn B T hdi hM
 have GDu:qp P w K mg base q5 3 fDu fdDu xg (wp K):=um hDu.fn B G T hdi hM hC
 have GNu:qp P w K mg base q5 2 fNu fdNu xf (wo K):=ui hNu.fn B hT
 have GPl:qp P w K mg base q5 1 fA fdA XM (vw PT):=uj hA.fn hc TM
 have GPd:qp P w K mg base (Jj P w) 7 fPd fdPd xc (yO K CG CM PT):=Uz hPd.fn B G T M Z hdi hQ hNh hOv hAf hWw hC GC xM
 have GTo:qp P w K mg base q5 8 fTo fdTo GJ (vp K CG PT):=xl hTo.fn B T hA GPl hPd GPd xM Y
 refine F.okJ Q9 (λvs H Q E z=>?_) (λcdv A outer s H vs Q E hr z=>?_)
 . obtain⟨a,ns,rfl,_⟩:=z
   rfl
 . obtain⟨a,ns,rfl,hq,hlen,htb,htl,k⟩:=z
   have r1:qY 1 _:=hr.mono (by decide)
   have r2:qY 2 _:=hr.mono (by decide)
   have r3:qY 3 _:=hr.mono (by decide)
   have r7:qY 7 _:=hr.mono (by decide)
   refine⟨_,qh (j0 PassesOwn.never rfl (jO (by rfl) B.rng (qb (qw (YK rfl) (by rfl) B.max boot_max (qb qj (qb (qw (U3 rfl) (by rfl) B.min boot_min (qb (qw qz (by rfl) B.len boot_len (qb (jv 0) qe)) (qb qj qe))) qe))) qe))
       (qF (i:=1) Q9.nd rfl (Or.inl rfl))
       (qh (qt (i:=2) Q9.nd rfl (Or.inl rfl) (qP hL GL r1 (by rfl) (qb (qP hO GO r1 (by rfl) (qb (jv 0) (qb (jv 1) qe))) qe)))
       (qh (qt (i:=3) Q9.nd rfl (Or.inl rfl) (qP hR GR r3 (by rfl) (qb (jv 2) (qb (qW jg (qO (qb qj (qb qj (qb qj (qb qj qe))))) (qP hT GT r1 (by rfl) (qb (jv 2) (qb qj qe))) (λ_ _=>rfl)) qe))))
       (qh (qt (i:=4) Q9.nd rfl (Or.inl rfl) (VQ C.mkr GI r7 (by rfl) C.ns C.bi .nil Zg (qb (qR qT (by rfl) G.lst boot_list (qb (jv 3) qe)) qe)))
       (qh (qt (i:=5) Q9.nd rfl (Or.inl rfl) (qP hH GH r2 (by rfl) (qb (jv 2) (qb (jv 3) (qb (qW jg (qO (qb qj (qb qj (qb qj qe)))) (qP hT GT r1 (by rfl) (qb (jv 2) (qb qj qe))) (λ_ _=>rfl)) qe)))))
       (qh (qt (i:=6) Q9.nd rfl (Or.inl rfl) (qR qT (by rfl) G.lst boot_list (qb (jv 5) qe)))
       (qh (qt (i:=7) Q9.nd rfl (Or.inl rfl) (qP hT GT r1 (by rfl) (qb (jv 2) (qb (qW jg (qO (qb qj (qb qj (qb qj (qb qj (qb qj (qb qj (qb qj (qb qj qe))))))))) (qP hT GT r1 (by rfl) (qb (jv 2) (qb qj qe))) (λ_ _=>rfl)) qe))))
       (qh (qt (i:=8) Q9.nd rfl (Or.inl rfl) (qP hNu GNu r2 (by rfl) (qb (jv 2) (qb (jv 3) qe))))
       (qh (qt (i:=9) Q9.nd rfl (Or.inl rfl) (qP hDu GDu r3 (by rfl) (qb (jv 3) (qb (jv 5) (qb (jv 8) (qb (jv 7) qe))))))
       (qh (qt (i:=10) Q9.nd rfl (Or.inl rfl) (qP hTo GTo hr (by rfl) (qb (jv 4) (qb (jv 3) (qb (jv 5) (qb (jv 8) (qb (jv 7) qe)))))))
       (ql (jd (JW.pt (Jg (qv vW (qw (YJ hr.gd hr.units) (by rfl) Y.rep boot_repr (qb (jv 10) qe)) (qw (YJ hr.gd hr.units) (by rfl) Y.rep boot_repr (qb (jv 9) qe)) (qy _)) (QA (qv (ub hr.units) (jv 5) (jv 6) (qy _))))) qZ qD))))))))))))
     (ql (qH (kN GLo hr (by rfl) hLo.ns hLo.fn.kp hLo.bi .nil Zg))),?_⟩
   refine⟨_,rfl,a,_,rfl,.inl hq,_,_,rfl,_,_,rfl,?_⟩
   generalize hj:(if (if (14:Int) < ((ns.map V.int).length:Int) then (14:Int) else ((ns.map V.int).length:Int)) > 3 then (if (14:Int) < ((ns.map V.int).length:Int) then (14:Int) else ((ns.map V.int).length:Int)) else 3)=jj
   have jb:=Ga (by omega) hj
   refine⟨jj,rfl,jb.1,jb.2,?_⟩
   refine QL (λi σ H'=>∃v1 v2 v3 v4 v5 v6 v7 v8 v9 v10,σ=[some (.ref a),v1,v2,v3,v4,v5,v6,v7,v8,v9,v10]/\SqL K H' a (ns.map V.int)/\H' PT=some (.tbl #[.str Zf 0])/\H' PL=some (.tbl #[.str qL 0])) ⟨_,_,_,_,_,_,_,_,_,_,rfl,hq,htb,htl⟩ ?_ ?_
   . rintro i σ H' hi ⟨v1,v2,v3,v4,v5,v6,v7,v8,v9,v10,rfl,hq2,htb2,htl2⟩
     refine⟨_,rfl,_,rfl,a,ns,_,rfl,hq2,by omega,λc0=>⟨c0,rfl,λd n sd hd=>?_⟩⟩
     have s3:=qk (o:=HO.dK (src n sd 0)) hd
     have hd3:upd H' d (.dK (src n sd 0)) d=some (.dK (src n sd 0)):=qd
     generalize upd H' d (.dK (src n sd 0))=H3 at s3 hd3
     have hq3:=hq2.keep s3.keep
     have tb3:=s3 _ _ htb2
     have tc3:=s3 _ _ htl2
     refine⟨_,rfl,by show 4<=sizeLine;decide,λlp hlp=>?_⟩
     have s4:=qk (o:=HO.lst [V.int 3,.int 5,.int 9,.int 14]) hlp
     have h4:upd H3 lp (.lst [V.int 3,.int 5,.int 9,.int 14]) lp=some (.lst [V.int 3,.int 5,.int 9,.int 14]):=qd
     generalize upd H3 lp (.lst [V.int 3,.int 5,.int 9,.int 14])=H4 at s4 h4
     have hd4:=s4 _ _ hd3
     refine⟨_,rfl,d,4,n,sd,0,rfl,hd4,by decide,by decide,λr' n3 t3 r0' r1'=>?_⟩
     obtain⟨mo,em,m0,m14⟩:=K2 r0' r1'
     have hd5:upd H4 d (.dK (src n3 sd t3)) d=some (.dK (src n3 sd t3)):=qd
     have fr5:Fr H4 d (upd H4 d (.dK (src n3 sd t3))):=Fr.refl.at_d
     generalize upd H4 d (.dK (src n3 sd t3))=H5 at hd5 fr5
     have hq5:=zY (hq3.keep s4.keep) hd4 fr5
     have tb5:=ji fr5 hd4 (s4 _ _ tb3) (λ_ z=>nomatch z)
     have tc5:=ji fr5 hd4 (s4 _ _ tc3) (λ_ z=>nomatch z)
     refine⟨lp,_,r',_,rfl,rfl,.of (ji fr5 hd4 h4 (λ_ z=>nomatch z)),em,d,mo,n3,sd,t3,rfl,hd5,m0,m14,λl ps rs n' t' H7 hl hl7 rat good pos le hd7 fr7=>?_⟩
     have hq7:=zY hq5 hd5 fr7
     have tb7:=ji fr7 hd5 tb5 (λ_ z=>nomatch z)
     have tc7:=ji fr7 hd5 tc5 (λ_ z=>nomatch z)
     have le14:=Nat.le_trans le m14
     have g7:jy H7 l ps rs:=⟨hl7,rat,good,pos,le14⟩
     refine⟨_,rfl,l,_,rfl,.inl (.of hl7),λl2 hl2 x dx hx hdx ndx=>?_⟩
     have s8:Same H7 (upd H7 l2 (.lst (ps.map V.ref))):=qk hl2
     refine zB (X:=upd H7 l2 (.lst (ps.map V.ref))) qd (rat.mono s8) good pos le14 hx hdx ndx λH9 s9 gr9=>?_
     have s79:=s8.trans s9
     have hd9:=s79 _ _ hd7
     refine⟨_,rfl,_,rfl,by show 3<=sizeLine;decide,λlq hlq=>?_⟩
     have sA:=qk (o:=HO.lst [V.int 2,.int 4,.int 8]) hlq
     have hA':upd H9 lq (.lst [V.int 2,.int 4,.int 8]) lq=some (.lst [V.int 2,.int 4,.int 8]):=qd
     generalize upd H9 lq (.lst [V.int 2,.int 4,.int 8])=HA at sA hA'
     have s7A:=s79.trans sA
     have hdA:=sA _ _ hd9
     refine⟨_,rfl,d,3,n',sd,t',rfl,hdA,by decide,by decide,λr2' nB tB q0' q1'=>?_⟩
     obtain⟨mo2,em2,m8⟩:=K1 q0' q1'
     have hdB:upd HA d (.dK (src nB sd tB)) d=some (.dK (src nB sd tB)):=qd
     have frB:Fr HA d (upd HA d (.dK (src nB sd tB))):=Fr.refl.at_d
     generalize upd HA d (.dK (src nB sd tB))=HB at hdB frB
     have gB:=(g7.mono s7A).fr' hdA frB
     have grB:=(gr9.mono sA).frd pos hdA frB
     have hqB:=zY (hq7.keep s7A.keep) hdA frB
     have tbB:=ji frB hdA (s7A _ _ tb7) (λ_ z=>nomatch z)
     have tcB:=ji frB hdA (s7A _ _ tc7) (λ_ z=>nomatch z)
     refine⟨lq,_,r2',_,rfl,rfl,.of (ji frB hdA hA' (λ_ z=>nomatch z)),em2,d,l,mo2,nB,sd,tB,ps,rs,rfl,hdB,gB,m8,λh hs n10 t10 H10 hh0 hh10 hh8 hin hd10 fr10=>?_⟩
     have gr10:=grB.frd pos hdB fr10
     have g10:=gB.fr' hdB fr10
     have hq10:=zY hqB hdB fr10
     have tb10:=ji fr10 hdB tbB (λ_ z=>nomatch z)
     have tc10:=ji fr10 hdB tcB (λ_ z=>nomatch z)
     have hp10:jH H10 h rs hs:=⟨hh10,Nat.le_trans hh8 m8,hin⟩
     have oks:QE rs hs:=⟨hp10.le,hin⟩
     refine⟨_,rfl,h,_,rfl,.inl (.of hh10),λkp fkp=>?_⟩
     have u1:=qk (o:=HO.lst (hs.map V.str)) fkp
     have y1:upd H10 kp (.lst (hs.map V.str)) kp=some (.lst (hs.map V.str)):=qd
     generalize upd H10 kp (.lst (hs.map V.str))=J1 at u1 y1
     have hdJ:=u1 _ _ hd10
     refine⟨_,rfl,by show 8<=sizeLine;decide,λlw flw=>?_⟩
     have u2:=qk (o:=HO.lst [V.int 31,.int 31,.int 31,.int 31,.int 31,.int 31,.int 5,.int 60]) flw
     have y2:upd J1 lw (.lst [V.int 31,.int 31,.int 31,.int 31,.int 31,.int 31,.int 5,.int 60]) lw=some (.lst [V.int 31,.int 31,.int 31,.int 31,.int 31,.int 31,.int 5,.int 60]):=qd
     generalize upd J1 lw (.lst [V.int 31,.int 31,.int 31,.int 31,.int 31,.int 31,.int 5,.int 60])=J2 at u2 y2
     have hdJ2:=u2 _ _ hdJ
     refine⟨_,rfl,d,8,n10,sd,t10,rfl,hdJ2,by decide,by decide,λr3 n11 t11 e0 e1=>?_⟩
     obtain⟨mo3,em3,o0,o60⟩:=K0 e0 e1
     have hdJ3:upd J2 d (.dK (src n11 sd t11)) d=some (.dK (src n11 sd t11)):=qd
     have frJ3:Fr J2 d (upd J2 d (.dK (src n11 sd t11))):=Fr.refl.at_d
     generalize upd J2 d (.dK (src n11 sd t11))=J3 at hdJ3 frJ3
     refine⟨lw,_,r3,_,rfl,rfl,.of (ji frJ3 hdJ2 y2 (λ_ z=>nomatch z)),em3,d,(mo3:Int),n11,sd,t11,rfl,hdJ3,by omega,?_,λmst n12 t12 g0 g1'=>?_⟩
     . have:((mo3:Int)).natAbs<=60:=by omega
       exact Nat.lt_of_le_of_lt this (by decide)
     obtain⟨most,rfl⟩:∃m:Nat,mst=(m:Int):=⟨mst.toNat,by omega⟩
     have m60:most<=60:=by omega
     have hdJ4:upd J3 d (.dK (src n12 sd t12)) d=some (.dK (src n12 sd t12)):=qd
     have frJ4:Fr J3 d (upd J3 d (.dK (src n12 sd t12))):=Fr.refl.at_d
     generalize upd J3 d (.dK (src n12 sd t12))=J4 at hdJ4 frJ4
     have f14:Fr H10 d J4:=λb ob hb nb=>frJ4 _ _ (frJ3 _ _ ((u1.trans u2) _ _ hb) nb) nb
     have kpJ4:J4 kp=some (.lst (hs.map V.str)):=ji (frJ3.trans frJ4) hdJ2 (u2 _ _ y1) (λ_ z=>nomatch z)
     have g4':=g10.fr' hd10 f14
     refine⟨_,rfl,_,rfl,d,l,ps,rs,n12,sd,t12,rfl,g4',hdJ4,λln d0 d1 Nn v n13 t13 Hv J5 frV frJ5 nv0 nv1 n01 hdJ5 hln hd0 hd1 nok ov=>?_⟩
     have f45:Fr J4 d J5:=frV.trans frJ5
     have f15:Fr H10 d J5:=f14.trans f45
     have gr15:=gr10.frd pos hd10 f15
     have g15:=g10.fr' hd10 f15
     have hq15:=zY hq10 hd10 f15
     have tb15:=ji f15 hd10 tb10 (λ_ z=>nomatch z)
     have tc15:=ji f15 hd10 tc10 (λ_ z=>nomatch z)
     have hh15:=ji f15 hd10 hh10 (λ_ z=>nomatch z)
     have kp15:=ji f45 hdJ4 kpJ4 (λ_ z=>nomatch z)
     have v0:∀{b:Addr} {ob:HO},H10 b=some ob->b≠d->b≠d0/\b≠d1:=λ{b ob} hb nb=>⟨(λz=>by
       have:=frV _ _ (f14 _ _ hb nb) nb
       rw[z,nv0]at this
       cases this),(λz=>by
       have:=frV _ _ (f14 _ _ hb nb) nb
       rw[z,nv1]at this
       cases this)⟩
     have nud:zZ J5 ln d0 d1 Nn 0 0 v:=⟨hln,hd0,hd1⟩
     have sV:Same (Q5 Hv d) J5:=λb ob hb=>by
       have nb:b≠d:=λe=>by
         unfold Q5 at hb
         rw[if_pos e]at hb
         cases hb
       exact frJ5 _ _ (Jh _ _ _ _ hb) nb
     refine⟨_,rfl,_,rfl,_,rfl,_,rfl,l,h,ln,d0,d1,ps,rs,hs,Nn,0,0,v,most,rfl,g15,⟨hh15,oks.1,oks.2⟩,nud,nok,(ov.keep sV.keep).dv,by omega,λJ6 R1 dd s6 dv1 pl1=>?_⟩
     have d0d:d0≠d:=λz=>by rw[z,hdJ5]at hd0;exact absurd (congrArg List.length (HO.dK.inj (Option.some.inj hd0))) (show ¬(3:Nat)=5 by decide)
     have d1d:d1≠d:=λz=>by rw[z,hdJ5]at hd1;exact absurd (congrArg List.length (HO.dK.inj (Option.some.inj hd1))) (show ¬(3:Nat)=5 by decide)
     have lift:∀{b:Addr} {ob:HO},H10 b=some ob->b≠d->UX J6 d0 d1 b=some ob:=λ{b ob} hb nb=>Zo (s6 _ _ (f15 _ _ hb nb)) (v0 hb nb).1 (v0 hb nb).2
     have nD:∀{b:Addr} {ob:HO},H10 b=some ob->(∀kv,ob≠.dK kv)->b≠d:=λ{b ob} hb no z=>by
       rw[z,hd10]at hb
       exact no _ (Option.some.inj hb).symm
     have sVD:Same (Q5 Hv d) (UX J6 d0 d1):=λb ob hb=>by
       have h1:=Jh _ _ _ _ hb
       exact Zo (s6 _ _ (sV _ _ hb)) (λz=>by rw[z,nv0]at h1;cases h1) (λz=>by rw[z,nv1]at h1;cases h1)
     have frD:Fr H10 d (UX J6 d0 d1):=λb ob hb nb=>lift hb nb
     refine⟨_,rfl,_,rfl,_,rfl,_,rfl,_,rfl,x,l,h,ln,d0,d1,ps,rs,hs,Nn,v,most,UX J6 d0 d1,rfl,UW _ _ _,?_,?_,n01,lift tb10 (nD tb10 (λ_ z=>nomatch z)),gr10.frd pos hd10 frD,g10.fr' hd10 frD,⟨lift hh10 (nD hh10 (λ_ z=>nomatch z)),oks.1,oks.2⟩,nok,(ov.keep sVD.keep).dv,(ov.keep sVD.keep).no,by omega,?_,s6 _ _ hd0,s6 _ _ hd1,λJ7 R2 d2 k7 dv2 pl2=>?_⟩
     . show Q5 (Q5 J6 d0) d1 d0=none
       unfold Q5
       rw[if_neg n01,if_pos rfl]
     . exact yc _ _
     . exact Zo (s6 _ _ hln) (λz=>by rw[z,hd0]at hln;cases hln) (λz=>by rw[z,hd1]at hln;cases hln)
     obtain rfl:=pl1.uniq pl2
     have hd06:=s6 _ _ hd0
     have hd16:Q5 J6 d0 d1=some (.dK (jo Nn.b1 Nn.m1 0 Nn.o v)):=Qd (s6 _ _ hd1) (Ne.symm n01)
     have dv1':=jX k7 (W0 hd16 (W0 hd06 dv1))
     obtain⟨e1',e2',e3'⟩:=Ut good oks m60 ov.sw ov.dp ov.ln pl1
     refine⟨_,rfl,R2,dd,rfl,dv2,e1',dv2.noDict,e2',e3',_,rfl,R1,dd,rfl,dv1',e1',dv1'.noDict,e2',e3',rfl,_,rfl,jk (xA _) ?_⟩
     have hh7:=k7 _ _ (lift hh10 (nD hh10 (λ_ z=>nomatch z))) (λ_ z=>nomatch z)
     have kp6:=s6 _ _ kp15
     have kp7:=k7 _ _ (Zo kp6 (λz=>by rw[z,hd06]at kp6;cases kp6) (λz=>by rw[z,s6 _ _ hd1]at kp6;cases kp6)) (λ_ z=>nomatch z)
     refine⟨_,rfl,_,rfl,dL hs,uW hh7,uW kp7,shL (oks.names good),_,rfl,jP ?_⟩
     exact⟨_,_,_,_,_,_,_,_,_,_,rfl,(Xu (Xu (hq15.keep s6.keep) hd06) hd16).keep k7,k7 _ _ (lift tb10 (nD tb10 (λ_ z=>nomatch z))) (λ_ z=>nomatch z),k7 _ _ (lift tc10 (nD tc10 (λ_ z=>nomatch z))) (λ_ z=>nomatch z)⟩
   . rintro σ H' ⟨v1,v2,v3,v4,v5,v6,v7,v8,v9,v10,rfl,hq2,htb2,htl2⟩
     exact⟨rfl,htl2,λH9=>k H9⟩
end
end Rh
set_option Elab.async false
set_option linter.all false
set_option maxRecDepth 100000
set_option maxHeartbeats 4000000
namespace Rh
open PySem L2 PyProof.Rows 
theorem kss {K:PySem.W.Frag}:PySem.W.kitOne K (.type "str") (.type "str")=some true:=by kernel_rfl
theorem ktt {K:PySem.W.Frag}:PySem.W.kitOne K (.type "tuple") (.type "tuple")=some true:=by kernel_rfl
theorem kll {K:PySem.W.Frag}:PySem.W.kitOne K (.type "list") (.type "list")=some true:=by kernel_rfl
section
variable {K:PySem.W.Frag}
def MF (K:PySem.W.Frag) (n q:Str) (s:Stmt) (f:Addr):Prop:=∃fd,Qa K n q s f fd
theorem MF.mk' {x qual:Str} {st:Stmt} {f:Addr} {oc:Value} {od an:Option Addr} {osl:Array (Option Value)} {kV doc pm cdv ct:Value} (l:K.lookup f=some ⟨oc,od,.func (PySem.W.fnOf x qual (jA st) (ja st) (qi st) .none kV doc pm an cdv ct),osl⟩) (c:PySem.W.codeIn K cdv qual=true) (k:PySem.W.keepIn K (.ref f)=true):MF K x qual st f:=⟨_,zP l c k⟩
def HF (K:PySem.W.Frag) (n:Str) (s:Stmt) (f:Addr):Prop:=PySem.W.nsIn K mainGlobals n=some (some (.ref f))/\MF K n n s f
theorem HF.mk' {x:Str} {st:Stmt} {f:Addr} {oc:Value} {od an:Option Addr} {osl:Array (Option Value)} {kV doc pm cdv ct:Value} (a:PySem.W.nsIn K mainGlobals x=some (some (.ref f))) (l:K.lookup f=some ⟨oc,od,.func (PySem.W.fnOf x x (jA st) (ja st) (qi st) .none kV doc pm an cdv ct),osl⟩) (c:PySem.W.codeIn K cdv x=true) (k:PySem.W.keepIn K (.ref f)=true):HF K x st f:=⟨a,_,zP l c k⟩
theorem HF.has {h:Heap} {mg:Str->Option Value} {n:Str} {s:Stmt} {f:Addr} {ps:List Str} (l:HF K n s f) (X:K.In h) (G:h.Ns mainGlobals mg) (b:∀{fd},Qa K n n s f fd->jE K fd ps []):∃fd,jC K mg n s ps f fd:=let ⟨a,fd,F⟩:=l;⟨fd,F,PySem.W.mg_of X G a,b F⟩
end
def Kq (es:Array DictEntry):Bool:=es.all λe=>match e.key with | .str _ _=>true | _=>false
theorem yM {es:Array DictEntry} (h:Kq es=true):StrKeys es:=by
 intro e he
 have q:=Array.all_eq_true'.mp h e he
 revert q
 cases hk:e.key<;>intro q<;>first | exact⟨_,_,rfl⟩ | (dsimp only at q;cases q)
section
variable {K:PySem.W.Frag} {mg:Str->Option Value} {D C f:Addr} {x qual fld:Str} {st:Stmt}
theorem uM {h:Heap} {fd:FuncData} {nm q:Str} {N:Addr} {bs:List Value} {hdct:Bool} {sn:List Str} {sub:List Value} {ab:Bool} {col:Option Bool} {dd:Option Addr} {k0 k1 k2 k3 k5:Option Value}
   (X:K.In h) (G:h.Ns mainGlobals mg) (tl:∀h:Heap,K.In h->OwnTail h j7 (.ref D::j7)) (F:Qa K "__init__" qual st f fd) (b:jE K fd ["self",fld] [])
   (a1:PySem.W.nsIn K mainGlobals x=some (some (.ref C)))
   (a2:K.lookup C=some (excClassObj nm q C N bs (.ref D::j7) hdct sn sub ab col dd k0 k1 k2 k3 k5 "ValueError.__new__"))
   (a3:PySem.W.findIn K (.ref C) "__init__"=some (some (.ref f))) (a4:PySem.W.isFn K (.ref f)=true) (a5:PySem.W.keepIn K (.ref C)=true)
   (a6:PySem.W.findIn K (.ref C) "__getattribute__"=some (some (.builtin "BaseException.__getattribute__"))) (a7:PySem.W.findIn K (.ref C) "__getattr__"=some none)
   (a8:PySem.W.findIn K (.ref C) "__setattr__"=some (some (.builtin "object.__setattr__"))) (a9:PySem.W.hasDictIn K C=true)
   (a10:PySem.W.mroIn K C (.type "BaseException")=some true) (a11:PySem.W.mroIn K C (.type "object")=some true)
   (a12:PySem.W.findIn K (.ref C) "__class__"=some (some (.builtin "object.__class__"))) (a13:PySem.W.findIn K (.ref C) fld=some none):x4 K mg D x qual st fld C f fd:=
 ⟨⟨a6,a7,a8,a9,⟨_,by unfold PySem.W.clsIn;rw[a2],rfl⟩,a10,a11,a12⟩,⟨⟨nm,q,N,bs,hdct,sn,sub,ab,col,dd,k0,k1,k2,k3,k5,a2⟩,tl,a3,a4,a5⟩,PySem.W.mg_of X G a1,a13,F,b⟩
end
theorem at0 {a:Addr} {l:List Addr}:(a::l)[0]?=some a:=rfl
theorem at1 {a b:Addr} {l:List Addr}:(a::b::l)[1]?=some b:=rfl
def WA (K:PySem.W.Frag) (tabs:List Wo):Sp:=λvs H Q _=>∃(a:Addr) (ns:List Int),vs=[.ref a]/\SqL K H a (ns.map V.int)/\ns.length<=63/\(∀t∈tabs,H t.P=some (.tbl #[.str t.q 0]))/\∀H',Q (.bl true) H'
theorem all_mk {l:PySem.W.OpenLaw} {w:World} {K:PySem.W.Frag} {h:Heap} {mg:Str->Option Value} {fa:Addr} (X:K.In h) (G:h.Ns mainGlobals mg) (hfa:mg "law"=some (.ref fa))
   {fO fL fT fN fD fR fA1 fA2 fA3 fA4 fA5 fA6 fA7 fA8 fP1 fP2 fP3 fP4 fP5 fP6 fP7 fP8 fP9 fP10 fE1 fE2 fE3 fE4 fE5 fE6 fCGi fCGM fCGF CNoMove fNoMove:Addr}
   {fLAW:Addr} {odLAW anLAW:Option Addr} {slLAW:Array (Option Value)} {ocLAW kVLAW dcLAW pmLAW cdLAW ctLAW:Value}
   {CG:Addr}
   {tm1:Tok}
   {tm2:Tok}
   {tm3:Tok}
   {tm4:Tok}
   {tm5:Tok}
   {D:Addr} {nmHE qHE:Str} {NHE:Addr} {bsHE subHE:List Value} {hdctHE abHE:Bool} {snHE:List Str} {colHE:Option Bool} {ddHE:Option Addr} {kaHE kbHE kcHE kdHE keHE:Option Value} {oHN:Value} {dHN:Option Addr} {es:Array DictEntry} {ep:Nat} {slHN:Array (Option Value)}
   {nmNoMove qNoMove:Str} {NNoMove:Addr} {bsNoMove subNoMove:List Value} {hdctNoMove abNoMove:Bool} {snNoMove:List Str} {colNoMove:Option Bool} {ddNoMove:Option Addr} {kaNoMove kbNoMove kcNoMove kdNoMove keNoMove:Option Value}
   {ts:List Addr} {fMK cMK PMK CZ fML cML PML:Addr} {ocMK kVMK dcMK pmMK ctMK oc2MK ocML kVML dcML pmML ctML oc2ML:Value} {odMK anMK od2MK odML anML od2ML:Option Addr} {slMK sl2MK slML sl2ML:Array (Option Value)} {vsMK vsML:Array Value}
   (lO:HF K "_law_cell_at" Vw fO)
   (lL:HF K "_law_source" Z0 fL)
   (lT:HF K "_law_take" Zb fT)
   (lN:HF K "_law_names" zm fN)
   (lD:HF K "_law_leads" zo fD)
   (lR:HF K "_law_rows" Vs fR)
   (lA1:HF K "is_name" Zc fA1)
   (lA2:HF K "is_tuple_of_names" Yo fA2)
   (lA3:HF K "is_row" zp fA3)
   (lA4:HF K "need_form" Vu fA4)
   (lA5:HF K "need_own_names" yV fA5)
   (lA6:HF K "need_ends" Vv fA6)
   (lA7:HF K "need_few_roads" yX fA7)
   (lA8:HF K "need_rows" Yq fA8)
   (lP1:HF K "need_place" Jb fP1)
   (lP2:HF K "need_heap" JQ fP2)
   (lP3:HF K "moves_of" QI fP3)
   (lP4:HF K "is_whole" YY fP4)
   (lP5:HF K "is_move" Z1 fP5)
   (lP6:HF K "left_by" Vt fP6)
   (lP7:HF K "is_over" Yp fP7)
   (lP8:HF K "after" JR fP8)
   (lP9:HF K "who_won" Uj fP9)
   (lP10:HF K "played" QQ fP10)
   (lE1:HF K "_law_heap" Y0 fE1)
   (lE2:HF K "_law_moves" Jl fE2)
   (lE3:HF K "_law_choice" Qw fE3)
   (lE4:HF K "_law_due" yY fE4)
   (lE5:HF K "_law_told" Vr fE5)
   (lE6:HF K "_law_numbers" yW fE6)
   (aLAW:PySem.W.nsIn K mainGlobals "law"=some (some (.ref fLAW)))
   (lLAW:K.lookup fLAW=some ⟨ocLAW,odLAW,.func (PySem.W.fnOf "law" "law" (jA YZ) (ja YZ) (qi YZ) .none kVLAW dcLAW pmLAW anLAW cdLAW ctLAW),slLAW⟩)
   (cLAW:PySem.W.codeIn K cdLAW "law"=true)
   (kLAW:PySem.W.keepIn K (.ref fLAW)=true)
   (nCG:PySem.W.nsIn K mainGlobals "Ground"=some (some (.ref CG)))
   (pgCG:PySem.W.plainGet K CG Str.empty=true)
   (hdCG:PySem.W.hasDictIn K CG=true)
   (poCG:PySem.W.plainOver K CG=true)
   (saCG:PySem.W.findIn K (.ref CG) "__setattr__"=some (some (.builtin "object.__setattr__")))
   (mkCG:PySem.W.makesIn K CG=true)
   (inCG:PySem.W.findIn K (.ref CG) "__init__"=some (some (.ref fCGi)))
   (fiCG:PySem.W.isFn K (.ref fCGi)=true)
   (kcCG:PySem.W.keepIn K (.ref CG)=true)
   (noCG:PySem.W.findIn K (.ref CG) "order"=some none)
   (nrCG:PySem.W.findIn K (.ref CG) "roads"=some none)
   (lCGi:MF K "__init__" "Ground.__init__" WI fCGi)
   (atCGM:PySem.W.findIn K (.ref CG) "names"=some (some (.ref fCGM)))
   (fnCGM:PySem.W.isFn K (.ref fCGM)=true)
   (lCGM:MF K "names" "Ground.names" Zd fCGM)
   (atCGF:PySem.W.findIn K (.ref CG) "roads_from"=some (some (.ref fCGF)))
   (fnCGF:PySem.W.isFn K (.ref fCGF)=true)
   (lCGF:MF K "roads_from" "Ground.roads_from" zq fCGF)
   (zlen:PySem.W.nsIn K mainGlobals "len"=some none)
   (zmax:PySem.W.nsIn K mainGlobals "max"=some none)
   (zmin:PySem.W.nsIn K mainGlobals "min"=some none)
   (zint:PySem.W.nsIn K mainGlobals "int"=some none)
   (zrange:PySem.W.nsIn K mainGlobals "range"=some none)
   (zisinstance:PySem.W.nsIn K mainGlobals "isinstance"=some none)
   (zstr:PySem.W.nsIn K mainGlobals "str"=some none)
   (zall:PySem.W.nsIn K mainGlobals "all"=some none)
   (zenumerate:PySem.W.nsIn K mainGlobals "enumerate"=some none)
   (zsum:PySem.W.nsIn K mainGlobals "sum"=some none)
   (zsorted:PySem.W.nsIn K mainGlobals "sorted"=some none)
   (zlist:PySem.W.nsIn K mainGlobals "list"=some none)
   (zreversed:PySem.W.nsIn K mainGlobals "reversed"=some none)
   (zset:PySem.W.nsIn K mainGlobals "set"=some none)
   (ztuple:PySem.W.nsIn K mainGlobals "tuple"=some none)
   (zdict:PySem.W.nsIn K mainGlobals "dict"=some none)
   (zbool:PySem.W.nsIn K mainGlobals "bool"=some none)
   (zrepr:PySem.W.nsIn K mainGlobals "repr"=some none)
   (m1:PySem.W.nsIn K mainGlobals "LETTERS"=some (some (.str "abcdefghijklmnopqrstuvwxyz" tm1)))
   (m2:PySem.W.nsIn K mainGlobals "LONGEST_NAME"=some (some (.int 8 tm2)))
   (m3:PySem.W.nsIn K mainGlobals "MOST_PLACES"=some (some (.int 14 tm3)))
   (m4:PySem.W.nsIn K mainGlobals "MOST_ROADS"=some (some (.int 40 tm4)))
   (m5:PySem.W.nsIn K mainGlobals "MOST_TOKENS"=some (some (.int 8 tm5)))
   (aHE:PySem.W.nsIn K mainGlobals "HeapError"=some (some (.ref D)))
   (oHE:K.lookup D=some (excClassObj nmHE qHE D NHE bsHE j7 hdctHE snHE subHE abHE colHE ddHE kaHE kbHE kcHE kdHE keHE "ValueError.__new__"))
   (nHE:K.lookup NHE=some ⟨oHN,dHN,.dict es ep,slHN⟩)
   (skHE:Kq es=true)
   (niHE:nsFind es (Str.ofString "__init__")=none)
   (a1NoMove:PySem.W.nsIn K mainGlobals "NoMove"=some (some (.ref CNoMove)))
   (a2NoMove:K.lookup CNoMove=some (excClassObj nmNoMove qNoMove CNoMove NNoMove bsNoMove (.ref D::j7) hdctNoMove snNoMove subNoMove abNoMove colNoMove ddNoMove kaNoMove kbNoMove kcNoMove kdNoMove keNoMove "ValueError.__new__"))
   (a3NoMove:PySem.W.findIn K (.ref CNoMove) "__init__"=some (some (.ref fNoMove)))
   (a4NoMove:PySem.W.isFn K (.ref fNoMove)=true)
   (lNoMove:MF K "__init__" "NoMove.__init__" Qv fNoMove)
   (a5NoMove:PySem.W.keepIn K (.ref CNoMove)=true)
   (a6NoMove:PySem.W.findIn K (.ref CNoMove) "__getattribute__"=some (some (.builtin "BaseException.__getattribute__")))
   (a7NoMove:PySem.W.findIn K (.ref CNoMove) "__getattr__"=some none)
   (a8NoMove:PySem.W.findIn K (.ref CNoMove) "__setattr__"=some (some (.builtin "object.__setattr__")))
   (a9NoMove:PySem.W.hasDictIn K CNoMove=true)
   (a10NoMove:PySem.W.mroIn K CNoMove (.type "BaseException")=some true)
   (a11NoMove:PySem.W.mroIn K CNoMove (.type "object")=some true)
   (a12NoMove:PySem.W.findIn K (.ref CNoMove) "__class__"=some (some (.builtin "object.__class__")))
   (a13NoMove:PySem.W.findIn K (.ref CNoMove) "found"=some none)
   (spc:PySem.W.specialIn K (.builtin "object.__class__") "__get__"=some (some (.builtin "getset_descriptor.__get__")))
   (tks:PySem.W.takesIn K (.builtin "object.__class__")=some true)
   (iMK:ts[1]?=some PMK)
   (aMK:PySem.W.nsIn K mainGlobals "_law_player"=some (some (.ref fMK)))
   (lMK:K.lookup fMK=some ⟨ocMK,odMK,.func (PySem.W.fnOf "_law_player" "_law_player" (jA ZT) (ja ZT) (qi ZT) .none kVMK dcMK pmMK anMK (.ref cMK) ctMK),slMK⟩)
   (cdMK:PySem.W.codeIn K (.ref cMK) "_law_player"=true)
   (kMK:PySem.W.keepIn K (.ref fMK)=true)
   (tMK:K.lookup cMK=some ⟨oc2MK,od2MK,.fields vsMK,sl2MK⟩)
   (pMK:vsMK[11]?=some (.ref PMK))
   (hMKc:PySem.W.codeHdIn K cMK PMK=true)
   (iML:ts[0]?=some PML)
   (aML:PySem.W.nsIn K mainGlobals "_law_long"=some (some (.ref fML)))
   (lML:K.lookup fML=some ⟨ocML,odML,.func (PySem.W.fnOf "_law_long" "_law_long" (jA JJ) (ja JJ) (qi JJ) .none kVML dcML pmML anML (.ref cML) ctML),slML⟩)
   (cdML:PySem.W.codeIn K (.ref cML) "_law_long"=true)
   (kML:PySem.W.keepIn K (.ref fML)=true)
   (tML:K.lookup cML=some ⟨oc2ML,od2ML,.fields vsML,sl2ML⟩)
   (pML:vsML[11]?=some (.ref PML))
   (hMLc:PySem.W.codeHdIn K cML PML=true)
   (nCZ:PySem.W.nsIn K mainGlobals "NoHeap"=some (some (.ref CZ)))
   (kt1:PySem.W.kitOne K (.ref CNoMove) (.ref D)=some true)
   (kt2:PySem.W.kitOne K (.ref CNoMove) (.ref CZ)=some false)
   (nPT:PMK≠PML)
   :
   ∃(tabs:List Wo) (fd:FuncData),(tabs.map (·.P)).Nodup/\(∀t∈tabs,t.P∈ts/\PySem.W.codeHdIn K t.c t.P=true)/\(∀(s:Shared) (v:Value),BindsTo s fd ⟨[v],[]⟩ [("_law_script",v)])/\∀base:Heap,K.In base->base.Ns mainGlobals mg->(∀t∈tabs,Xt mg base t.c t.P)->qp l.prog w K mg base q5 9 fa fd ["_law_script"] (WA K tabs):=by
 have e:=hfa.symm.trans (PySem.W.mg_of X G aLAW)
 cases e
 obtain⟨_,hO⟩:=lO.has (ps:=["_law_script","_law_k"]) X G λF=>F.binds λ_ _ _ _ _ _ us hl=>by obtain⟨_,_,rfl⟩:=Jx hl;rfl
 obtain⟨_,hL⟩:=lL.has (ps:=["_law_cell"]) X G λF=>F.binds λ_ _ _ _ _ _ us hl=>by obtain⟨_,rfl⟩:=Zi hl;rfl
 obtain⟨_,hT⟩:=lT.has (ps:=["_law_source_here","_law_many"]) X G λF=>F.binds λ_ _ _ _ _ _ us hl=>by obtain⟨_,_,rfl⟩:=Jx hl;rfl
 obtain⟨_,hN⟩:=lN.has (ps:=["_law_source_here","_law_many"]) X G λF=>F.binds λ_ _ _ _ _ _ us hl=>by obtain⟨_,_,rfl⟩:=Jx hl;rfl
 obtain⟨_,hD⟩:=lD.has (ps:=["_law_source_here","_law_many","_law_shape","_law_low"]) X G λF=>F.binds λ_ _ _ _ _ _ us hl=>by obtain⟨_,_,_,_,rfl⟩:=kz hl;rfl
 obtain⟨_,hR⟩:=lR.has (ps:=["_law_source_here","_law_most"]) X G λF=>F.binds λ_ _ _ _ _ _ us hl=>by obtain⟨_,_,rfl⟩:=Jx hl;rfl
 obtain⟨_,hA1⟩:=lA1.has (ps:=["thing"]) X G λF=>F.binds λ_ _ _ _ _ _ us hl=>by obtain⟨_,rfl⟩:=Zi hl;rfl
 obtain⟨_,hA2⟩:=lA2.has (ps:=["thing"]) X G λF=>F.binds λ_ _ _ _ _ _ us hl=>by obtain⟨_,rfl⟩:=Zi hl;rfl
 obtain⟨_,hA3⟩:=lA3.has (ps:=["thing"]) X G λF=>F.binds λ_ _ _ _ _ _ us hl=>by obtain⟨_,rfl⟩:=Zi hl;rfl
 obtain⟨_,hA4⟩:=lA4.has (ps:=["rows"]) X G λF=>F.binds λ_ _ _ _ _ _ us hl=>by obtain⟨_,rfl⟩:=Zi hl;rfl
 obtain⟨_,hA5⟩:=lA5.has (ps:=["order"]) X G λF=>F.binds λ_ _ _ _ _ _ us hl=>by obtain⟨_,rfl⟩:=Zi hl;rfl
 obtain⟨_,hA6⟩:=lA6.has (ps:=["ends","order"]) X G λF=>F.binds λ_ _ _ _ _ _ us hl=>by obtain⟨_,_,rfl⟩:=Jx hl;rfl
 obtain⟨_,hA7⟩:=lA7.has (ps:=["rows"]) X G λF=>F.binds λ_ _ _ _ _ _ us hl=>by obtain⟨_,rfl⟩:=Zi hl;rfl
 obtain⟨_,hA8⟩:=lA8.has (ps:=["rows"]) X G λF=>F.binds λ_ _ _ _ _ _ us hl=>by obtain⟨_,rfl⟩:=Zi hl;rfl
 obtain⟨_,hP1⟩:=lP1.has (ps:=["ground","thing"]) X G λF=>F.binds λ_ _ _ _ _ _ us hl=>by obtain⟨_,_,rfl⟩:=Jx hl;rfl
 obtain⟨_,hP2⟩:=lP2.has (ps:=["ground","heap"]) X G λF=>F.binds λ_ _ _ _ _ _ us hl=>by obtain⟨_,_,rfl⟩:=Jx hl;rfl
 obtain⟨_,hP3⟩:=lP3.has (ps:=["ground","heap"]) X G λF=>F.binds λ_ _ _ _ _ _ us hl=>by obtain⟨_,_,rfl⟩:=Jx hl;rfl
 obtain⟨_,hP4⟩:=lP4.has (ps:=["thing"]) X G λF=>F.binds λ_ _ _ _ _ _ us hl=>by obtain⟨_,rfl⟩:=Zi hl;rfl
 obtain⟨_,hP5⟩:=lP5.has (ps:=["ground","heap","thing"]) X G λF=>F.binds λ_ _ _ _ _ _ us hl=>by obtain⟨_,_,_,rfl⟩:=xD hl;rfl
 obtain⟨_,hP6⟩:=lP6.has (ps:=["heap","move"]) X G λF=>F.binds λ_ _ _ _ _ _ us hl=>by obtain⟨_,_,rfl⟩:=Jx hl;rfl
 obtain⟨_,hP7⟩:=lP7.has (ps:=["ground","heap"]) X G λF=>F.binds λ_ _ _ _ _ _ us hl=>by obtain⟨_,_,rfl⟩:=Jx hl;rfl
 obtain⟨_,hP8⟩:=lP8.has (ps:=["ground","heap","move"]) X G λF=>F.binds λ_ _ _ _ _ _ us hl=>by obtain⟨_,_,_,rfl⟩:=xD hl;rfl
 obtain⟨_,hP9⟩:=lP9.has (ps:=["made"]) X G λF=>F.binds λ_ _ _ _ _ _ us hl=>by obtain⟨_,rfl⟩:=Zi hl;rfl
 obtain⟨_,hP10⟩:=lP10.has (ps:=["ground","heap","first","second","most"]) X G λF=>F.binds λ_ _ _ _ _ _ us hl=>by obtain⟨_,_,_,_,_,rfl⟩:=K3 hl;rfl
 obtain⟨_,hE1⟩:=lE1.has (ps:=["_law_source_here","_law_rows_here","_law_most"]) X G λF=>F.binds λ_ _ _ _ _ _ us hl=>by obtain⟨_,_,_,rfl⟩:=xD hl;rfl
 obtain⟨_,hE2⟩:=lE2.has (ps:=["_law_rows_here","_law_heap_here"]) X G λF=>F.binds λ_ _ _ _ _ _ us hl=>by obtain⟨_,_,rfl⟩:=Jx hl;rfl
 obtain⟨_,hE3⟩:=lE3.has (ps:=["_law_rows_here","_law_heap_here","_law_number","_law_turn"]) X G λF=>F.binds λ_ _ _ _ _ _ us hl=>by obtain⟨_,_,_,_,rfl⟩:=kz hl;rfl
 obtain⟨_,hE4⟩:=lE4.has (ps:=["_law_rows_here","_law_heap_here","_law_numbers_here","_law_most"]) X G λF=>F.binds λ_ _ _ _ _ _ us hl=>by obtain⟨_,_,_,_,rfl⟩:=kz hl;rfl
 obtain⟨_,hE5⟩:=lE5.has (ps:=["_law_ground","_law_rows_here","_law_heap_here","_law_numbers_here","_law_most"]) X G λF=>F.binds λ_ _ _ _ _ _ us hl=>by obtain⟨_,_,_,_,_,rfl⟩:=K3 hl;rfl
 obtain⟨_,hE6⟩:=lE6.has (ps:=["_law_source_here","_law_rows_here"]) X G λF=>F.binds λ_ _ _ _ _ _ us hl=>by obtain⟨_,_,rfl⟩:=Jx hl;rfl
 have FLAW:=zP (st:=YZ) lLAW cLAW kLAW
 obtain⟨_,FiCG⟩:=lCGi
 have clCG:Gz K mg CG fCGi _:=⟨⟨pgCG,hdCG,poCG,saCG⟩,⟨mkCG,inCG,fiCG,kcCG⟩,PySem.W.mg_of X G nCG,noCG,nrCG,FiCG,FiCG.binds (ps:=["self","rows"]) λ_ _ _ _ _ _ us hl=>by obtain⟨_,_,rfl⟩:=Jx hl;rfl⟩
 obtain⟨_,FCGM⟩:=lCGM
 have mCGM:u9 K CG "names" "Ground.names" Zd ["self"] fCGM _:=⟨FCGM,⟨atCGM,fnCGM,FCGM.kp⟩,FCGM.binds (ps:=["self"]) λ_ _ _ _ _ _ us hl=>by obtain⟨_,rfl⟩:=Zi hl;rfl⟩
 obtain⟨_,FCGF⟩:=lCGF
 have mCGF:u9 K CG "roads_from" "Ground.roads_from" zq ["self","name"] fCGF _:=⟨FCGF,⟨atCGF,fnCGF,FCGF.kp⟩,FCGF.binds (ps:=["self","name"]) λ_ _ _ _ _ _ us hl=>by obtain⟨_,_,rfl⟩:=Jx hl;rfl⟩
 have tl:∀h:Heap,K.In h->OwnTail h j7 (.ref D::j7):=λh X=>.own (X _ _ oHE) ⟨_,es,ep,X _ _ nHE,rfl,yM skHE,λ_=>rfl⟩ niHE .base
 have ccD:uY K D:=⟨j7,⟨_,_,_,_,_,_,_,_,_,_,_,_,_,_,_,oHE⟩,rfl⟩
 obtain⟨_,FNoMove⟩:=lNoMove
 have xNoMove:x4 K mg D "NoMove" "NoMove.__init__" Qv "found" CNoMove fNoMove _:=uM X G tl FNoMove (FNoMove.binds (ps:=["self","found"]) λ_ _ _ _ _ _ us hl=>by obtain⟨_,_,rfl⟩:=Jx hl;rfl) a1NoMove a2NoMove a3NoMove a4NoMove a5NoMove a6NoMove a7NoMove a8NoMove a9NoMove a10NoMove a11NoMove a12NoMove a13NoMove
 have B:JF mg:=⟨PySem.W.mg_none_of X G zlen,PySem.W.mg_none_of X G zmax,PySem.W.mg_none_of X G zmin,PySem.W.mg_none_of X G zint,PySem.W.mg_none_of X G zrange⟩
 have Gk:Qi mg:=⟨PySem.W.mg_none_of X G zsorted,PySem.W.mg_none_of X G zlist,PySem.W.mg_none_of X G zreversed,PySem.W.mg_none_of X G zset,PySem.W.mg_none_of X G ztuple⟩
 have T:Qh K mg:=⟨PySem.W.mg_none_of X G zisinstance,PySem.W.mg_none_of X G zstr,PySem.W.mg_none_of X G zall,PySem.W.mg_none_of X G zenumerate,PySem.W.mg_none_of X G zsum,⟨_,PySem.W.mg_of X G m1⟩,⟨_,PySem.W.mg_of X G m2⟩,⟨_,PySem.W.mg_of X G m3⟩,⟨_,PySem.W.mg_of X G m4⟩,kss,ktt,kll⟩
 have Nn:yo K mg:=⟨⟨_,_,hA1⟩,⟨_,_,hA2⟩,⟨_,_,hA3⟩,⟨_,_,hA4⟩,⟨_,_,hA5⟩,⟨_,_,hA6⟩,⟨_,_,hA7⟩⟩
 have M:GM K mg CG:=⟨⟨_,_,clCG⟩,⟨_,_,mCGM⟩,⟨_,_,mCGF⟩,⟨_,_,hA1⟩⟩
 have FMK:=zP (st:=ZT) lMK cdMK kMK
 have hMK:jC K mg "_law_player" ZT XM fMK _:=⟨FMK,PySem.W.mg_of X G aMK,FMK.binds (ps:=XM) λ_ _ _ _ _ _ us hl=>by obtain⟨_,_,_,_,rfl⟩:=kz hl;rfl⟩
 have FML:=zP (st:=JJ) lML cdML kML
 have hML:jC K mg "_law_long" JJ [] fML _:=⟨FML,PySem.W.mg_of X G aML,FML.binds (ps:=[]) λ_ _ _ _ _ _ us hl=>by obtain rfl:=K4 hl;rfl⟩
 have Z:HM K mg:=⟨⟨_,PySem.W.mg_of X G m5⟩,⟨_,_,hP1⟩,⟨_,_,hP2⟩,⟨_,_,hP3⟩,⟨_,_,hP4⟩,⟨_,_,hP5⟩,⟨_,_,hP6⟩,PySem.W.mg_none_of X G zbool⟩
 have W:HD K mg:=⟨⟨_,_,hP7⟩,⟨_,_,hP8⟩,⟨_,_,hP9⟩,⟨_,_,hP10⟩⟩
 have L:Gv K mg:=⟨⟨_,_,hO⟩,⟨_,_,hL⟩,⟨_,_,hT⟩,⟨_,_,hN⟩,⟨_,_,hD⟩,⟨_,_,hR⟩,⟨_,_,hA8⟩,⟨_,_,hE1⟩,⟨_,_,hE2⟩,⟨_,_,hE3⟩,⟨_,_,hE4⟩,⟨_,_,hE5⟩,⟨_,_,hE6⟩⟩
 have ZE:uU K mg D CNoMove CZ:=⟨PySem.W.mg_of X G aHE,PySem.W.mg_of X G nCZ,kt1,kt2,spc,tks,PySem.W.mg_none_of X G zrepr⟩
 refine⟨[⟨"_law_player",cMK,PMK,Zf⟩,⟨"_law_long",cML,PML,JK⟩],PySem.W.fnOf "law" "law" (jA YZ) (ja YZ) (qi YZ) .none kVLAW dcLAW pmLAW anLAW cdLAW ctLAW,List.nodup_cons.mpr ⟨λz=>nPT (List.mem_singleton.mp z),List.nodup_cons.mpr ⟨List.not_mem_nil,List.nodup_nil⟩⟩,λt ht=>?_,λs v=>.of_eq rfl,λbase _ _ hTM=>?_⟩
 . rcases List.mem_cons.mp ht with e | e
   . rw[e];exact⟨List.mem_of_getElem? iMK,hMKc⟩
   . rw[List.mem_singleton.mp e];exact⟨List.mem_of_getElem? iML,hMLc⟩
 . obtain⟨fQ,fdQ,hQ⟩:=Z.pl
   obtain⟨fNh,fdNh,hNh⟩:=Z.nh
   have GP:=WM (P:=l.prog) (w:=w) (base:=base) (CG:=CG) (PL:=PML) hP10.fn B Gk T M Z hQ hNh hP7 hP8 hP9
   have GLo:=xp (PL:=PML) hML.fn rfl (hTM _ (List.mem_cons_of_mem _ List.mem_cons_self)) B Gk T Nn M hA8 hP10 GP
   exact(uk (PT:=PMK) (PL:=PML) (qL:=JK) FLAW hMK rfl (hTM _ List.mem_cons_self) B Gk T Nn M Z W L (PySem.W.mg_none_of X G zdict) xNoMove ZE hML GLo).imp λvs H Q E z=>let ⟨a,ns,e,h1,h2,h3,h4⟩:=z;⟨a,ns,e,h1,h2,h3 _ List.mem_cons_self,h3 _ (List.mem_cons_of_mem _ List.mem_cons_self),h4⟩
theorem walk {l:PySem.W.OpenLaw} {q:Program} {loose:List Str} {XP:(Str->Option Value)->Heap->Prop} {YP:World->Heap->Prop} {d:DefRec} {K:Params->PySem.W.Frag} {ts:List Addr} (hn:l.most=some 63) (hdf:d.params.defaults=[])
   (hY:∀(w:World) (h:Heap),YP w h->(K w.params).In h) (hTs:∀(w:World) (h:Heap),YP w h->∀P∈ts,h.get? P=some (PySem.W.tabObj #[])) (hnt:∀w:World,PySem.W.noTabs (K w.params)=true)
   (F:∀(w:World) (mg:Str->Option Value) (fa:Addr) (h:Heap),(K w.params).In h->h.Ns mainGlobals mg->mg d.name=some (.ref fa)->
     ∃(tabs:List Wo) (fd:FuncData),(tabs.map (·.P)).Nodup/\(∀t∈tabs,t.P∈ts/\PySem.W.codeHdIn (K w.params) t.c t.P=true)/\(∀(s:Shared) (v:Value),BindsTo s fd ⟨[v],[]⟩ [("_law_script",v)])/\∀base:Heap,(K w.params).In base->base.Ns mainGlobals mg->(∀t∈tabs,Xt mg base t.c t.P)->qp l.prog w (K w.params) mg base q5 9 fa fd ["_law_script"] (WA (K w.params) tabs)):
   PySem.W.WalkO q loose XP YP l.row.toRowW d [] (λf vs=>PySem.call f vs):=
 L2.walk_ofT (n:=63) (k:=9) (x:="_law_script") (sp:=λK tabs=>WA K tabs) hn (by decide) hdf ⟨rfl,by decide,by decide,rfl⟩ hY hTs hnt F (λ_ _ _ a ns hl hS hP=>⟨a,ns,rfl,hS,hl,hP,λ_=>rfl⟩)
end Rh
open PySem PySem.W PyProof.Rows
def PySem.W.Fast.tw10538759249579994620 : Unit := ()
def PySem.W.Fast.tw861502493610598483 : Unit := ()
def PySem.W.Fast.tw10321690164698994850 : Unit := ()
def PySem.W.Fast.tw6871868339806680968 : Unit := ()
def PySem.W.Fast.tw7774113678449685934 : Unit := ()
def PySem.W.Fast.tw4973895382637375602 : Unit := ()
def PySem.W.Fast.tw3237361815906912622 : Unit := ()
def PySem.W.Fast.tw13171189065178304875 : Unit := ()
def PySem.W.Fast.tw16315454978102356719 : Unit := ()
def PySem.W.Fast.tw9942562575998753845 : Unit := ()
def PySem.W.Fast.tw2042216218616555271 : Unit := ()
def PySem.W.Fast.tw13485263441057248554 : Unit := ()
def PySem.W.Fast.tw18438055454900119596 : Unit := ()
def PySem.W.Fast.tw12147665669636231765 : Unit := ()
def PySem.W.Fast.tw12103309309050226592 : Unit := ()
def PySem.W.Fast.tw16012446641787371758 : Unit := ()
def PySem.W.Fast.tw13855379610559885079 : Unit := ()
def PySem.W.Fast.tw10741264400317747893 : Unit := ()
def PySem.W.Fast.tw6162269159774324313 : Unit := ()
def PySem.W.Fast.tw15235614512728720 : Unit := ()
def PySem.W.Fast.tw17170472223608059050 : Unit := ()
def PySem.W.Fast.tw16667319390619273182 : Unit := ()
def PySem.W.Fast.tw1342123614928995077 : Unit := ()
def PySem.W.Fast.tw16203965252921439515 : Unit := ()
def PySem.W.Fast.tw10167646349310259628 : Unit := ()
def PySem.W.Fast.tw9972681490609642005 : Unit := ()
def PySem.W.Fast.tw11662115353561507501 : Unit := ()
def PySem.W.Fast.tw11024694936033576346 : Unit := ()
def PySem.W.Fast.tw12848530379965262573 : Unit := ()
def PySem.W.Fast.tw3778530596728393105 : Unit := ()
def PySem.W.Fast.tw17613222154834848340 : Unit := ()
def PySem.W.Fast.tw14404928986312190071 : Unit := ()
def PySem.W.Fast.tw16919654943277366748 : Unit := ()
def PySem.W.Fast.tw1207101557538958131 : Unit := ()
def PySem.W.Fast.tw6548459193220583526 : Unit := ()
def PySem.W.Fast.tw13437419889732721216 : Unit := ()
def PySem.W.Fast.tw1864683662541468164 : Unit := ()
def PySem.W.Fast.tw3049343062529576306 : Unit := ()
def PySem.W.Fast.tw16723463757517087524 : Unit := ()
def PySem.W.Fast.tw13160504802963445071 : Unit := ()
def PySem.W.Fast.tw4683681711962371626 : Unit := ()
def PySem.W.Fast.tw8171798328758944481 : Unit := ()
def PySem.W.Fast.tw2358075552688931204 : Unit := ()
def PySem.W.Fast.tw3945831679567021610 : Unit := ()
def PySem.W.Fast.tw9689729476882780088 : Unit := ()
def PySem.W.Fast.tw14963028359598502718 : Unit := ()
def PySem.W.Fast.tw4684226298888400098 : Unit := ()
def PySem.W.Fast.tw2694234056635809718 : Unit := ()
def PySem.W.Fast.tw9331231397406362311 : Unit := ()
def PySem.W.Fast.tw4804111812005502284 : Unit := ()
def PySem.W.Fast.tw5323657890516693427 : Unit := ()
def PySem.W.Fast.tw11373181179767321252 : Unit := ()
def PySem.W.Fast.tw2259672571474061568 : Unit := ()
def PySem.W.Fast.tw855453113358079251 : Unit := ()
def PySem.W.Fast.tw5622701340561072331 : Unit := ()
def PySem.W.Fast.tw14958820412457663293 : Unit := ()
def PySem.W.Fast.tw447263597446747957 : Unit := ()
def PySem.W.Fast.tw6522051377940421278 : Unit := ()
def PySem.W.Fast.tw1825952489489211193 : Unit := ()
def PySem.W.Fast.tw12652081859355081885 : Unit := ()
def PySem.W.Fast.tw4849480874435393781 : Unit := ()
def PySem.W.Fast.tw14903569129155370506 : Unit := ()
def PySem.W.Fast.tw7086961617601330827 : Unit := ()
def PySem.W.Fast.tw14727194681476072466 : Unit := ()
def PySem.W.Fast.tw8374155422468719031 : Unit := ()
def PySem.W.Fast.tw2931988195819169919 : Unit := ()
def PySem.W.Fast.tw14564479935002850509 : Unit := ()
def PySem.W.Fast.tw8422229294311615681 : Unit := ()
def PySem.W.Fast.tw12269216009862288129 : Unit := ()
def PySem.W.Fast.tw16682895059504647277 : Unit := ()
def PySem.W.Fast.tw13946496683202179788 : Unit := ()
def PySem.W.Fast.tw12727641955093265886 : Unit := ()
def PySem.W.Fast.tw772564365185477556 : Unit := ()
def PySem.W.Fast.tw8431482922422412695 : Unit := ()
def PySem.W.Fast.tw16822532161544500889 : Unit := ()
def PySem.W.Fast.tw13674586047789940208 : Unit := ()
def PySem.W.Fast.tw5002640475654186023 : Unit := ()
def PySem.W.Fast.tw17963105932079019327 : Unit := ()
def PySem.W.Fast.tw2244103112122482387 : Unit := ()
def PySem.W.Fast.tw16902440903046159558 : Unit := ()
def PySem.W.Fast.tw10042083083395451092 : Unit := ()
def PySem.W.Fast.tw8002303944043701648 : Unit := ()
def PySem.W.Fast.tw17318462890700432884 : Unit := ()
def PySem.W.Fast.tw5217270863462422736 : Unit := ()
def PySem.W.Fast.tw11962351593759143498 : Unit := ()
def PySem.W.Fast.tw896878414759379649 : Unit := ()
def PySem.W.Fast.tw10295913840692754127 : Unit := ()
def PySem.W.Fast.tw13953587524928339648 : Unit := ()
def PySem.W.Fast.tw14261769069557060686 : Unit := ()
def PySem.W.Fast.tw9404705873571188630 : Unit := ()
def PySem.W.Fast.tw1956775160557780875 : Unit := ()
def PySem.W.Fast.tw17435391645217708394 : Unit := ()
def PySem.W.Fast.tw12099505692703838030 : Unit := ()
def PySem.W.Fast.tw16636501806038632012 : Unit := ()
def PySem.W.Fast.tw14022695629967993375 : Unit := ()
def PySem.W.Fast.tw6858818405166986180 : Unit := ()
def PySem.W.Fast.tw18146532975450069615 : Unit := ()
def PySem.W.Fast.tw16654469307462801742 : Unit := ()
def PySem.W.Fast.tw14387916025512776202 : Unit := ()
def PySem.W.Fast.tw11401859456886640639 : Unit := ()
def PySem.W.Fast.tw4548300405975405348 : Unit := ()
def PySem.W.Fast.tw28018229315631829 : Unit := ()
def PySem.W.Fast.tw12431713363859531893 : Unit := ()
def PySem.W.Fast.tw9848817304349107530 : Unit := ()
def PySem.W.Fast.tw2827255003249426055 : Unit := ()
def PySem.W.Fast.tw6128106870883400570 : Unit := ()
def PySem.W.Fast.tw4699756791338806529 : Unit := ()
def PySem.W.Fast.tw12670982853097334264 : Unit := ()
def PySem.W.Fast.tw539538531456391632 : Unit := ()
def PySem.W.Fast.tw10879749546641988924 : Unit := ()
def PySem.W.Fast.tw13769103115541136327 : Unit := ()
def PySem.W.Fast.tw6170744672141170255 : Unit := ()
def PySem.W.Fast.tw258204147387103276 : Unit := ()
def PySem.W.Fast.tw9582823730064241283 : Unit := ()
def PySem.W.Fast.tw12488014758255163090 : Unit := ()
def PySem.W.Fast.tw1599053048872161195 : Unit := ()
def PySem.W.Fast.tw12330612334027959195 : Unit := ()
set_option maxRecDepth 100000
set_option maxHeartbeats 0
open_top hd for PySem.Challenge.rw_ringheaps_k23_plays_of_two
set_option maxRecDepth 100000 in
set_option maxHeartbeats 0 in
theorem PySem.Challenge.cw_ringheaps_k23_plays_of_two_holds : PySem.Challenge.rw_ringheaps_k23_plays_of_two.Holds := by
 refine hd ?_
 k_fill
 refine Rh.walk (l:=PySem.Challenge.rw_ringheaps_k23_plays_of_two) rfl rfl (λw h Y=>PySem.W.km_in_of Y) (λw h Y=>PySem.W.km_tabs_of Y) ?hnt ?F
 case hnt=>exact λw=>by kernel_rfl
 case F=>
   intro w mg fa h KX G hmg
   refine' Rh.all_mk KX G hmg ?_ ?_ ?_ ?_ ?_ ?_ ?_ ?_ ?_ ?_ ?_ ?_ ?_ ?_ ?_ ?_ ?_ ?_ ?_ ?_ ?_ ?_ ?_ ?_ ?_ ?_ ?_ ?_ ?_ ?_ ?_ ?_ ?_ ?_ ?_ ?_ ?_ ?_ ?_ ?_ ?_ ?_ ?_ ?_ ?_ ?_ ?_ ?_ ?_ ?_ ?_ ?_ ?_ ?_ ?_ ?_ ?_ ?_ ?_ ?_ ?_ ?_ ?_ ?_ ?_ ?_ ?_ ?_ ?_ ?_ ?_ ?_ ?_ ?_ ?_ ?_ ?_ ?_ ?_ ?_ ?_ ?_ ?_ ?_ ?_ ?_ ?_ ?_ ?_ ?_ ?_ ?_ ?_ ?_ ?_ ?_ ?_ ?_ ?_ ?_ ?_ ?_ ?_ ?_ ?_ ?_ ?_ ?_ ?_ ?_ ?_ ?_ ?_ ?_ ?_ ?_
   any_goals first | exact Rh.at0 | exact Rh.at1 | (apply Rh.HF.mk'<;>k_is) | (apply Rh.MF.mk'<;>k_is) | k_is | kernel_rfl | rfl | decide
