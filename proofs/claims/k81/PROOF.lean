import PyProof.Rows.All
import Wide.All
import OpenK.AllK
import Wide.FinOn
import Lean
import PyProof.EqAt
import PyProof.EqKinds
import PyProof.TupleCall
import PySem.Challenge.RW_ringheaps_k81_places_alike_or_parted
set_option Elab.async false
set_option linter.all false
set_option maxRecDepth 100000
namespace L2
open PySem PySem.Spec PyProof.Rows
abbrev qE:=Sum Int Str
def YG:qE->Value->Bool
 | .inl k,v=>Value.isInt k v
 | .inr x,v=>Value.isStrOf x v
def qar (w:World):qE->Int
 | .inl k=>hashInt k
 | .inr x=>hashStr w x
theorem jh:∀{k:qE} {v:Value},YG k v=true->(∃i t,k=Sum.inl i/\v=Value.int i t)\/(∃x t,k=Sum.inr x/\v=Value.str x t)
 | .inl i,v,h=>by
   obtain⟨t,e⟩:=Value.isInt_shape (k:=i) (v:=v) h
   exact .inl ⟨i,t,rfl,e⟩
 | .inr x,v,h=>by
   obtain⟨t,e⟩:=Value.isStrOf_shape (x:=x) (v:=v) h
   exact .inr ⟨x,t,rfl,e⟩
theorem k4 (i:Int) (t:Tok):YG (.inl i) (.int i t)=true:=by simp [YG,Value.isInt]
theorem kZ (x:Str) (t:Tok):YG (.inr x) (.str x t)=true:=by simp [YG,Value.isStrOf]
theorem RP (a b:Int):decide ((Sum.inl a:qE)=Sum.inl b)=(a==b):=by
 by_cases e:a=b
 . subst e;simp
 . have h:¬(Sum.inl a:qE)=Sum.inl b:=λq=>e (Sum.inl.inj q)
   rw[decide_eq_false h]
   exact(beq_eq_false_iff_ne.mpr e).symm
theorem RM (a b:Str):decide ((Sum.inr a:qE)=Sum.inr b)=decide (a=b):=by
 by_cases e:a=b
 . subst e;simp
 . have h:¬(Sum.inr a:qE)=Sum.inr b:=λq=>e (Sum.inr.inj q)
   rw[decide_eq_false h,decide_eq_false e]
theorem RO (a:Int) (b:Str):decide ((Sum.inl a:qE)=Sum.inr b)=false:=decide_eq_false (λq=>nomatch q)
theorem RN (a:Str) (b:Int):decide ((Sum.inr a:qE)=Sum.inl b)=false:=decide_eq_false (λq=>nomatch q)
def qS (prog:Program) (w:World):PySem.KeyKind prog w qE where
 is:=YG
 hash:=qar w
 inj:=λv a b ha hb=>by
   rcases jh ha with ⟨i,t,rfl,rfl⟩ | ⟨x,t,rfl,rfl⟩
   . rcases jh hb with ⟨j,u,rfl,e⟩ | ⟨y,u,rfl,e⟩
     . injection e with e1 _;rw[e1]
     . exact nomatch e
   . rcases jh hb with ⟨j,u,rfl,e⟩ | ⟨y,u,rfl,e⟩
     . exact nomatch e
     . injection e with e1 _;rw[e1]
 byValue:=λk v h=>by
   rcases jh h with ⟨i,t,rfl,rfl⟩ | ⟨x,t,rfl,rfl⟩<;>rfl
 pyHash:=λhv h=>by
   rcases jh hv with ⟨i,t,rfl,rfl⟩ | ⟨x,t,rfl,rfl⟩
   . exact wpAny_pyHash_int h
   . exact wpAny_pyHash_str h
 eqBool:=λhu hv h=>by
   rcases jh hu with ⟨i,t,rfl,rfl⟩ | ⟨x,t,rfl,rfl⟩
   . rcases jh hv with ⟨j,u,rfl,rfl⟩ | ⟨y,u,rfl,rfl⟩
     . rw[RP]at h;exact wpAny_eqBool_int h
     . rw[RO]at h;exact SeqAt.EqAt.int_str i t y u _ _ _ _ h
   . rcases jh hv with ⟨j,u,rfl,rfl⟩ | ⟨y,u,rfl,rfl⟩
     . rw[RN]at h;exact SeqAt.EqAt.str_int x t j u _ _ _ _ h
     . rw[RM]at h;exact wpAny_eqBool_str h
 «strs»:=λk x t v h=>by
   rcases jh h with ⟨i,u,rfl,e⟩ | ⟨y,u,rfl,e⟩
   . exact nomatch e
   . injection e with e1 _
     subst e1
     cases v<;>rfl
theorem Vl (prog:Program) (w:World) (i:Int) (t:Tok):(qS prog w).is (.inl i) (.int i t)=true:=k4 i t
theorem Vk (prog:Program) (w:World) (x:Str) (t:Tok):(qS prog w).is (.inr x) (.str x t)=true:=kZ x t
end L2
namespace L2
open PySem PySem.Spec PyProof.Rows
inductive V where
 | non | bl (b:Bool) | int (i:Int) | str (x:Str) | byt (b:Array UInt8) | flt (b:UInt64) | ref (a:Addr) | ty (n:String)
 deriving DecidableEq
def qK:V->Value->Prop
 | .non,u=>u=Value.none
 | .bl b,u=>u=Value.bool b
 | .int i,u=>∃t,u=Value.int i t
 | .str x,u=>∃t,u=Value.str x t
 | .byt b,u=>∃t,u=Value.bytes b t
 | .flt b,u=>∃t,u=Value.float b t
 | .ref a,u=>u=Value.ref a
 | .ty n,u=>u=Value.type n
abbrev qD:List V->List Value->Prop:=Paired qK
theorem qD.length {xs:List V} {us:List Value} (r:qD xs us):xs.length=us.length:=Paired.length r
theorem qD.get:∀{xs:List V} {us:List Value} {i:Nat} {x:V},qD xs us->xs[i]?=some x->∃u,us[i]?=some u/\qK x u
 | _,_,_,_,.nil,e=>by simp at e
 | _,_,0,_,.cons r _,e=>by simp at e;subst e;exact⟨_,rfl,r⟩
 | _,_,i+1,x,.cons _ t,e=>by
   obtain⟨u,h1,h2⟩:=qD.get (i:=i) (x:=x) t (by simpa using e)
   exact⟨u,by simpa using h1,h2⟩
theorem qD.append:∀{xs ys:List V} {us ws:List Value},qD xs us->qD ys ws->qD (xs++ys) (us++ws)
 | _,_,_,_,.nil,s=>s
 | _,_,_,_,.cons r t,s=>.cons r (qD.append t s)
theorem qD.take:∀{xs:List V} {us:List Value} (n:Nat),qD xs us->qD (xs.take n) (us.take n)
 | _,_,0,_=>.nil
 | _,_,_+1,.nil=>.nil
 | _,_,n+1,.cons r t=>.cons r (qD.take n t)
theorem qD.drop:∀{xs:List V} {us:List Value} (n:Nat),qD xs us->qD (xs.drop n) (us.drop n)
 | _,_,0,r=>r
 | _,_,_+1,.nil=>.nil
 | _,_,n+1,.cons _ t=>qD.drop n t
theorem qD.none_of:∀{xs:List V} {us:List Value} {i:Nat},qD xs us->xs[i]?=none->us[i]?=none:=λ{xs us i} r e=>by
 have h1:=r.length
 have h2:xs.length<=i:=List.getElem?_eq_none_iff.mp e
 exact List.getElem?_eq_none_iff.mpr (by omega)
def Ji:Option V->Option Value->Prop
 | some v,some u=>qK v u
 | none,none=>True
 | _,_=>False
def KV {κ:Type}:List (κ×V)->List (κ×Value)->Prop:=Paired λ(p:κ×V) (q:κ×Value)=>p.1=q.1/\qK p.2 q.2
def kV:qE->V
 | .inl i=>.int i
 | .inr x=>.str x
inductive HO where
 | lst (xs:List V)
 | tup (xs:List V)
 | dK (kvs:List (qE×V)) | dT (kvs:List (List qE×V))
 | set (S:Int->Bool) (n:Nat)
 | ins (C dx:Addr) (fs:List (Str×V))
 | own (x:Addr)
 | xd (fs:List (Str×V))
 | met (f x:Addr)
 | rng (lo hi:Int)
 | frz (o:Obj) (u:HO)
 | tbl (ps:Array Value)
 | ext (φ:Heap->Prop)
abbrev Hp:=Addr->Option HO
def upd (H:Hp) (a:Addr) (o:HO):Hp:=λb=>if b=a then some o else H b
theorem qd {H:Hp} {a:Addr} {o:HO}:upd H a o a=some o:=by unfold upd;rw[if_pos rfl]
theorem qh {H:Hp} {a b:Addr} {o:HO} (h:b≠a):upd H a o b=H b:=by unfold upd;rw[if_neg h]
theorem jr {H:Hp} {a:Addr} {o u:HO}:upd (upd H a o) a u=upd H a u:=by
 funext b;unfold upd;split<;>rfl
theorem N8 {H:Hp} {a b:Addr} {o u:HO} (h:H a=some o) (h':H b=some u) (d:o≠u):a≠b:=by
 intro e;subst e;rw[h]at h';exact d (Option.some.inj h')
theorem qo {H:Hp} {a b:Addr} {o:HO} (h:H a=some o) (h':H b=none):a≠b:=by
 intro e;subst e;rw[h]at h';cases h'
section
variable (P:Program) (w:World)
def qG (H:Hp) (h:Heap) (a:Addr):HO->Prop
 | .lst xs=>xs.length<=sizeLine/\∃(its:List Value) (n:Nat),qD xs its/\h.get? a=some {cls:=.type "list",data:=.seq its.toArray n}
 | .tup xs=>xs.length<=sizeLine/\∃its:List Value,qD xs its/\IsTup h a its.toArray
 | .dK kvs=>kvs.length<=sizeLine/\(a==sysModules)=false/\∃vs,KV kvs vs/\h.DictOf (qS P w) a vs
 | .dT kvs=>kvs.length<=sizeLine/\(a==sysModules)=false/\∃xs:List (List qE×Addr×Value),
     Paired (λ(p:List qE×V) (q:List qE×Addr×Value)=>p.1=q.1/\H q.2.1=some (.tup (p.1.map kV))/\qK p.2 q.2.2) kvs xs/\
     ∃o es ep,h.get? a=some o/\o.ExactDict/\o.data=.dict es ep/\es.toList=xs.map (entryOfKey (tupleKind (qS P w)))/\(xs.map (·.1)).Nodup
 | .set S n=>h.SetOf (intKind P w) a S n
 | .ins C dx fs=>H dx=some (.own a)/\fs.length<=1000/\dx≠a/\h.get? a=some (PySem.W.instObj C dx)/\
     ∃mA,h.Ns1 dx mA/\(∀f,Ji (fs.lookup f) (mA f))/\PySem.Within mA (fs.map (·.1))
 | .own _=>∃o,h.get? a=some o
 | .xd fs=>∃mA,h.Ns1 a mA/\∀f,Ji (fs.lookup f) (mA f)
 | .rng lo hi=>∃t u v,h.get? a=some {cls:=.type "range",data:=.fields #[.int lo t,.int hi u,.int 1 v]}
 | .frz o u=>h.get? a=some o/\qG H h a u
 | .tbl ps=>h.get? a=some {cls:=.none,data:=.fields ps}
 | .met f x=>h.get? a=some (PySem.W.methodObj (.ref f) (.ref x))
 | .ext φ=>φ h/\(∃o,h.get? a=some o)/\∀h1 h2:Heap,φ h1->(∀o,h1.get? a=some o->h2.get? a=some o)->φ h2
def Jk (H:Hp) (h:Heap):Prop:=∀a o,H a=some o->qG P w H h a o
end
section
variable {P:Program} {w:World} {H H':Hp} {h h':Heap} {a:Addr} {o:HO}
theorem qG.lt (x:qG P w H h a o):a < h.objs.size:=by
 cases o with
 | lst xs=>obtain⟨_,_,_,_,e⟩:=x;exact Heap.lt_size e
 | tup xs=>obtain⟨_,_,_,p⟩:=x;exact p.lt
 | dK kvs=>obtain⟨_,_,_,_,o,_,_,e,_⟩:=x;exact Heap.lt_size e
 | dT kvs=>obtain⟨_,_,_,_,o,_,_,e,_⟩:=x;exact Heap.lt_size e
 | set S n=>obtain⟨o,_,_,_,e,_⟩:=x;exact Heap.lt_size e
 | ins C dx fs=>obtain⟨_,_,_,e,_⟩:=x;exact Heap.lt_size e
 | own y=>obtain⟨_,e⟩:=x;exact Heap.lt_size e
 | xd fs=>obtain⟨_,⟨_,_,_,e,_⟩,_⟩:=x;exact Heap.lt_size e
 | rng lo hi=>obtain⟨_,_,_,e⟩:=x;exact Heap.lt_size e
 | frz ob u=>obtain⟨e,_⟩:=x;exact Heap.lt_size e
 | tbl ps=>exact Heap.lt_size (show h.get? a=some _ from x)
 | met f y=>exact Heap.lt_size (show h.get? a=some _ from x)
 | ext φ=>obtain⟨_,⟨_,e⟩,_⟩:=x;exact Heap.lt_size e
theorem Paired.mapP {α β:Type} {F G:α->β->Prop}:∀{l₁:List α} {l₂:List β},Paired F l₁ l₂->(∀a b,F a b->G a b)->Paired G l₁ l₂
 | _,_,.nil,_=>.nil
 | _,_,.cons r t,f=>.cons (f _ _ r) (Paired.mapP t f)
theorem qG.stay (x:qG P w H h a o) (k:∀b u,(b=a\/H b=some (.own a))->h.get? b=some u->h'.get? b=some u)
   (ho:∀b,H b=some (.own a)->H' b=some (.own a)) (ht:∀b xs,H b=some (.tup xs)->H' b=some (.tup xs)):qG P w H' h' a o:=by
 induction o with
 | lst xs=>obtain⟨z,its,n,r,e⟩:=x;exact⟨z,its,n,r,k _ _ (.inl rfl) e⟩
 | tup xs=>obtain⟨z,its,r,ob,e,c⟩:=x;exact⟨z,its,r,ob,k _ _ (.inl rfl) e,c⟩
 | dK kvs=>obtain⟨z,y,vs,r,ob,es,ep,e,c⟩:=x;exact⟨z,y,vs,r,ob,es,ep,k _ _ (.inl rfl) e,c⟩
 | dT kvs=>
   obtain⟨z,y,xs,r,ob,es,ep,e,c⟩:=x
   exact⟨z,y,xs,Paired.mapP r λp q z=>⟨z.1,ht _ _ z.2.1,z.2.2⟩,ob,es,ep,k _ _ (.inl rfl) e,c⟩
 | set S n=>obtain⟨ob,es,ep,t,e,c⟩:=x;exact⟨ob,es,ep,t,k _ _ (.inl rfl) e,c⟩
 | ins C dx fs=>
   obtain⟨d,z,ne,e,mA,⟨od,es,ep,e2,c⟩,r⟩:=x
   exact⟨ho _ d,z,ne,k _ _ (.inl rfl) e,mA,⟨od,es,ep,k _ _ (.inr d) e2,c⟩,r⟩
 | own y=>obtain⟨ob,e⟩:=x;exact⟨ob,k _ _ (.inl rfl) e⟩
 | xd fs=>obtain⟨mA,⟨od,es,ep,e,c⟩,r⟩:=x;exact⟨mA,⟨od,es,ep,k _ _ (.inl rfl) e,c⟩,r⟩
 | rng lo hi=>obtain⟨t,u,v,e⟩:=x;exact⟨t,u,v,k _ _ (.inl rfl) e⟩
 | frz ob u ih=>obtain⟨e,q⟩:=x;exact⟨k _ _ (.inl rfl) e,ih q⟩
 | tbl ps=>
   have e:h.get? a=some {cls:=.none,data:=.fields ps}:=x
   show h'.get? a=some {cls:=.none,data:=.fields ps}
   exact k a _ (.inl rfl) e
 | met f y=>
   have e:h.get? a=some (PySem.W.methodObj (.ref f) (.ref y)):=x
   show h'.get? a=some (PySem.W.methodObj (.ref f) (.ref y))
   exact k a _ (.inl rfl) e
 | ext φ=>obtain⟨p,⟨o,e⟩,st⟩:=x;exact⟨st _ _ p λo q=>k _ _ (.inl rfl) q,⟨o,k _ _ (.inl rfl) e⟩,st⟩
theorem Jk.lt (x:Jk P w H h) (e:H a=some o):a < h.objs.size:=(x a o e).lt
theorem Jk.fresh (x:Jk P w H h) (e:h.objs.size<=a):H a=none:=by
 cases q:H a with
 | none=>rfl
 | some u=>exact absurd (Nat.lt_of_lt_of_le (x.lt q) e) (Nat.lt_irrefl _)
theorem Jk.kept (x:Jk P w H h) (k:∀b u,h.get? b=some u->h'.get? b=some u):Jk P w H h':=λa o e=>
 (x a o e).stay (λb u _ q=>k b u q) (λ_ q=>q) λ_ _ q=>q
theorem Jk.laid (x:Jk P w H h) (k:∀b u,h.get? b=some u->h'.get? b=some u) (hp:h.objs.size<=a) (new:qG P w (upd H a o) h' a o):Jk P w (upd H a o) h':=λb u e=>by
 have hn:=x.fresh hp
 by_cases hb:b=a
 . subst hb;rw[qd]at e;cases e;exact new
 . rw[qh hb]at e
   exact(x b u e).stay (λc v _ q=>k c v q) (λc q=>by rw[qh (qo q hn)];exact q) λc xs q=>by rw[qh (qo q hn)];exact q
end
def Rd (H:Hp) (a:Addr) (u:HO):Prop:=H a=some u\/∃o,H a=some (.frz o u)
theorem Rd.ok {P:Program} {w:World} {H:Hp} {h:Heap} {a:Addr} {u:HO} (r:Rd H a u) (x:Jk P w H h):qG P w H h a u:=by
 rcases r with r | ⟨o,r⟩
 . exact x a u r
 . obtain⟨_,q⟩:=x a _ r
   exact q
def No:Option HO->Prop
 | some (.lst _)=>True
 | some (.dK _)=>True
 | some (.dT _)=>True
 | some (.set _ _)=>True
 | some (.ins _ _ _)=>True
 | some (.ext _)=>True
 | _=>False
section
variable {P:Program} {w:World} {H:Hp} {h h':Heap} {x e:Addr} {o':HO}
theorem Jk.write (ok:Jk P w H h) (mu:No (H x)) (he:e=x\/H e=some (.own x)) (k:∀b u,b≠e->h.get? b=some u->h'.get? b=some u) (heo:∃u,h'.get? e=some u)
   (new:qG P w (upd H x o') h' x o'):Jk P w (upd H x o') h':=λb u q=>by
 have nown:∀c y,H c=some (.own y)->c≠x:=λc y r z=>by subst z;rw[r]at mu;exact mu
 have ntup:∀c xs,H c=some (.tup xs)->c≠x:=λc xs r z=>by subst z;rw[r]at mu;exact mu
 by_cases hb:b=x
 . subst hb;rw[qd]at q;cases q;exact new
 . rw[qh hb]at q
   by_cases hbe:b=e
   . have q':H b=some (.own x):=by
       rcases he with z | z
       . exact absurd (hbe.trans z) hb
       . rw[hbe];exact z
     rw[q]at q';cases q'
     obtain⟨v,hv⟩:=heo
     exact⟨v,by rw[hbe];exact hv⟩
   . refine(ok b u q).stay (λc v hc r=>k c v ?_ r) (λc r=>by rw[qh (nown c b r)];exact r) λc xs r=>by rw[qh (ntup c xs r)];exact r
     rcases hc with rfl | hc
     . exact hbe
     . rintro rfl
       rcases he with z | z
       . exact nown c b hc z
       . rw[hc]at z;cases z;exact hb rfl
end
structure Un (fs ex:List Addr) (H H':Hp) (h h':Heap):Prop where
 keep:∀b o,h.get? b=some o->H b=none->b∉fs->b∉ex->h'.get? b=some o
 slot:∀b o,h.get? b=some o->H b=none->b∈fs->b∉ex->∃sl,h'.get? b=some {o with slots:=sl}
 free:∀b o,h.get? b=some o->H b=none->b∉ex->H' b=none
 there:∀b o,h.get? b=some o->b∉ex->∃o',h'.get? b=some o'
 tups:∀b xs,H b=some (.tup xs)->H' b=some (.tup xs)
 frzs:∀b o u,H b=some (.frz o u)->H' b=some (.frz o u)
 tbls:∀b ps,H b=some (.tbl ps)->∃more,H' b=some (.tbl (ps++more))
section
variable {fs fs' ex ex':List Addr} {H H1 H2:Hp} {h h1 h2 h':Heap} {a x e:Addr} {o:HO}
theorem Un.any (u:Un fs ex H H1 h h1) {b:Addr} {ob:Obj} (q:h.get? b=some ob) (n:H b=none) (hx:b∉ex):∃sl,h1.get? b=some {ob with slots:=sl}:=by
 by_cases hb:b∈fs
 . exact u.slot b ob q n hb hx
 . exact⟨ob.slots,u.keep b ob q n hb hx⟩
theorem Un.kept (k:∀b u,h.get? b=some u->h'.get? b=some u):Un fs ex H H h h':=
 ⟨λb ob q _ _ _=>k b ob q,λb ob q _ _ _=>⟨ob.slots,k b ob q⟩,λ_ _ _ n _=>n,λb ob q _=>⟨ob,k b ob q⟩,λ_ _ q=>q,λ_ _ _ q=>q,λ_ ps q=>⟨#[],by rw[q];simp⟩⟩
theorem Un.refl:Un fs ex H H h h:=Un.kept λ_ _ q=>q
theorem Un.laid (k:∀b u,h.get? b=some u->h'.get? b=some u) (hp:h.objs.size<=a) (hn:H a=none):Un fs ex H (upd H a o) h h' where
 keep:=λb u q _ _ _=>k b u q
 slot:=λb u q _ _ _=>⟨u.slots,k b u q⟩
 free:=λb u q n _=>by rw[qh (Nat.ne_of_lt (Nat.lt_of_lt_of_le (Heap.lt_size q) hp))];exact n
 there:=λb u q _=>⟨u,k b u q⟩
 tups:=λb xs q=>by rw[qh (qo q hn)];exact q
 frzs:=λb u xs q=>by rw[qh (qo q hn)];exact q
 tbls:=λb ps q=>⟨#[],by rw[qh (qo q hn),q];simp⟩
theorem Un.write (mu:No (H x)) (he:e=x\/H e=some (.own x)) (k:∀b u,b≠e->h.get? b=some u->h'.get? b=some u) (heo:∃u,h'.get? e=some u):Un fs ex H (upd H x o) h h':=by
 have hx:∀b,H b=none->b≠x:=λb n z=>by subst z;rw[n]at mu;exact mu
 have hb:∀b,H b=none->b≠e:=λb n z=>by
   subst z
   rcases he with r | r
   . exact hx b n r
   . rw[n]at r;cases r
 have hm:∀b u,H b=some u->¬No (some u)->b≠x:=λb u q nm z=>by subst z;rw[q]at mu;exact nm mu
 refine⟨λb u q n _ _=>k b u (hb b n) q,λb u q n _ _=>⟨u.slots,k b u (hb b n) q⟩,λb u q n _=>by rw[qh (hx b n)];exact n,λb u q _=>?_,
   λb xs q=>by rw[qh (hm b _ q λz=>z)];exact q,λb u xs q=>by rw[qh (hm b _ q λz=>z)];exact q,λb ps q=>⟨#[],by rw[qh (hm b _ q λz=>z),q];simp⟩⟩
 by_cases hbe:b=e
 . subst hbe;exact heo
 . exact⟨u,k b u hbe q⟩
end
def MD (h:Heap) (H:Hp):List Addr:=(List.range h.objs.size).filter λa=>(H a).isSome
def Wy (h:Heap) (H:Hp):Heap:=PySem.W.hideAll h (MD h H)
theorem yc (h:Heap) (H:Hp):(Wy h H).objs.size=h.objs.size:=PySem.W.hideAll_size _ _
theorem wA {h:Heap} {H:Hp} {b:Addr} {o:Obj} (e:h.get? b=some o) (n:H b=none):(Wy h H).get? b=some o:=
 PySem.W.hideAll_get _ e λhm=>by
   have q:(H b).isSome=true:=(List.mem_filter.mp hm).2
   rw[n]at q;simp at q
theorem Kq {h:Heap} {H:Hp} {b:Addr} {o:Obj} (e:(Wy h H).get? b=some o):h.get? b=some o/\H b=none:=by
 have e':h.get? b=some o:=PySem.W.of_hideAll (MD h H) e
 refine⟨e',?_⟩
 cases q:H b with
 | none=>rfl
 | some x=>
   have hm:b∈MD h H:=List.mem_filter.mpr ⟨List.mem_range.mpr (Heap.lt_size e'),by simp [q]⟩
   have z:(Wy h H).get? b=none:=PySem.W.hideAll_none (MD h H) hm
   rw[z]at e;cases e
def K1 (g h:Heap) (L:Addr):List (Addr×Obj):=(List.range h.objs.size).filterMap λa=>if a=L\/(g.get? a).isSome=true then none else (h.get? a).map λo=>(a,o)
def rest (g h:Heap) (L d:Addr):List (Addr×Obj):=(K1 g h L).filter λp=>decide (p.1≠d)
end L2
namespace L2
open PySem PySem.Spec PyProof.Rows
structure Mod (K:PySem.W.Frag) (mg:Str->Option Value) (base:Heap):Prop where
 kin:K.In base
 glob:base.Ns mainGlobals mg
 blt:∃mb,base.Ns builtinsNs mb/\∀x:Str,x≠"__name__"->mb x=bootBuiltins x
 nolimit:base.NoLimit
structure Cx where
 prog:Program
 w:World
 K:PySem.W.Frag
 mg:Str->Option Value
 base:Heap
 A:Around
 N:List Str
 s₀:Shared
 H₀:Hp
 env:Env
 outer:List Env
 stack:List Env
 ex:List Addr
 fn:Str->Bool
 calm:Bool
 pn:List (Addr×Obj)
 xe:Value->Shared->Prop
def zD (l:List Env):List Addr:=l.filterMap (·.frame)
abbrev Cx.fs (X:Cx):List Addr:=zD X.outer
def Ni (sc:Scope) (x:Str):Prop:=sc.names.lookup x=some .local\/sc.names.lookup x=some .cell\/sc.names.lookup x=some .free
def Np (sc:Scope) (x:Str):Prop:=sc.names.lookup x=some .local\/sc.names.lookup x=some .cell
def qaA (env:Env) (h:Heap) (m:Str->Option Value) (x:Str) (u:Value):Prop:=
 (env.kindOf x=some .local/\m x=some u)\/((env.kindOf x=some .cell\/env.kindOf x=some .free)/\∃c,env.cells.lookup x=some c/\h.IsCell c (some u))
structure Cx.Ok (X:Cx):Prop where
 mod:Mod X.K X.mg X.base
 kind:X.env.scope.kind=.function
 glob:X.env.globals=mainGlobals
 blt:X.env.builtins=builtinsNs
 above:X.s₀.heap.objs.size<=X.env.locals
 inj:∀x y c,X.env.cells.lookup x=some c->X.env.cells.lookup y=some c->x=y
 has:∀x,(X.env.kindOf x=some .cell\/X.env.kindOf x=some .free)->∃c,X.env.cells.lookup x=some c
 cab:∀x c,X.fn x=true->X.env.cells.lookup x=some c->X.s₀.heap.objs.size<=c
 hd:X.calm=true->X.A.handled=none
 frames:X.A.frames=some X.stack
 stk:X.stack=X.outer\/(X.stack=X.env::X.outer/\X.env.frame=some X.env.locals)
 exf:∀b∈X.ex,b≠X.env.locals/\∀x c,X.env.cells.lookup x=some c->c≠b
 bs:∀b o,X.base.get? b=some o->X.s₀.heap.get? b=some o/\X.H₀ b=none
 bsz:X.base.objs.size<=X.s₀.heap.objs.size
 noex:∀b o,X.base.get? b=some o->b∉X.ex
 exfs:∀b∈X.ex,b∉X.fs
 funs:X.s₀.heap.FunFrames X.base X.outer
 frf:∀b∈X.fs,X.H₀ b=none
structure qx (X:Cx) (pins:List (Addr×Obj)) (σ:List (Option V)) (H:Hp) (s:Shared):Prop where
 ok:X.Ok
 os:s.os=X.s₀.os
 bare:AllBare s.gens
 base:Un X.fs X.ex X.H₀ H X.s₀.heap s.heap
 loc:∃m,s.heap.Ns X.env.locals m/\∀(i:Nat) (x:Str) (v:V),X.N[i]?=some x->σ[i]?=some (some v)->Ni X.env.scope x->∃u,qK v u/\qaA X.env s.heap m x u
 cell:∀x c,X.env.cells.lookup x=some c->∃v,s.heap.IsCell c v
 free:H X.env.locals=none
 freeC:∀x c,X.env.cells.lookup x=some c->H c=none
 pin:∀p∈X.pn++pins,s.heap.get? p.1=some p.2/\H p.1=none/\p.1≠X.env.locals/\p.1∉X.fs/\∀v,p.2.data≠.cell v
 hok:Jk X.prog X.w H s.heap
 len:σ.length=X.N.length
section
variable {X:Cx} {pins:List (Addr×Obj)} {σ:List (Option V)} {H H':Hp} {s:Shared} {h':Heap}
theorem Cx.Ok.nofr (ok:X.Ok) {b:Addr} {o:Obj} (e:X.base.get? b=some o):b∉X.fs:=λhb=>by
 have:=(ok.funs.mem hb).1
 rw[e]at this;cases this
theorem qx.bs (I:qx X pins σ H s):∀b o,X.base.get? b=some o->s.heap.get? b=some o/\H b=none:=λb o e=>
 ⟨I.base.keep b o (I.ok.bs b o e).1 (I.ok.bs b o e).2 (I.ok.nofr e) (I.ok.noex b o e),I.base.free b o (I.ok.bs b o e).1 (I.ok.bs b o e).2 (I.ok.noex b o e)⟩
theorem qx.bk (I:qx X pins σ H s):∀b o,X.base.get? b=some o->s.heap.get? b=some o:=λb o e=>(I.bs b o e).1
theorem qx.mod (I:qx X pins σ H s):Mod X.K X.mg X.base:=I.ok.mod
theorem qx.kIn (I:qx X pins σ H s):X.K.In s.heap:=I.ok.mod.kin.keeps I.bk
theorem qx.lt (I:qx X pins σ H s):X.env.locals < s.heap.objs.size:=let ⟨_,hn,_⟩:=I.loc;hn.lt
theorem qx.sz (I:qx X pins σ H s):X.s₀.heap.objs.size<=s.heap.objs.size:=Nat.le_trans I.ok.above (Nat.le_of_lt I.lt)
theorem qx.nofs (I:qx X pins σ H s) {a:Addr} (h:s.heap.objs.size<=a):a∉X.fs:=λhb=>by
 obtain⟨_,o,ho,_⟩:=I.ok.funs.mem hb
 exact absurd (Nat.lt_of_lt_of_le (Heap.lt_size ho) (Nat.le_trans I.sz h)) (Nat.lt_irrefl _)
theorem qx.cne (I:qx X pins σ H s):∀x c,X.env.cells.lookup x=some c->c≠X.env.locals:=λx c e z=>by
 obtain⟨v,o,ho,hd⟩:=I.cell x c e
 obtain⟨m,⟨o',es,ep,ho',hd',_⟩,_⟩:=I.loc
 rw[z,ho']at ho;cases ho;rw[hd']at hd;cases hd
theorem qx.funs (I:qx X pins σ H s):s.heap.FunFrames X.base X.outer:=by
 have all:∀(l:List Env),(∀b∈zD l,b∈X.fs)->X.s₀.heap.FunFrames X.base l->s.heap.FunFrames X.base l:=by
   intro l
   induction l with
   | nil=>intro _ _;trivial
   | cons env r ih=>
     intro hs hl
     obtain⟨hk,⟨L,o,hf,hn,ho,hd⟩,hr⟩:=hl
     have hL:L∈X.fs:=hs L (by unfold zD;rw[List.filterMap_cons,hf];exact List.mem_cons_self)
     obtain⟨sl,e⟩:=I.base.slot L o ho (I.ok.frf L hL) hL λz=>I.ok.exfs L z hL
     exact⟨hk,⟨L,_,hf,hn,e,hd⟩,ih (λb hb=>hs b (by unfold zD;rw[List.filterMap_cons,hf];exact List.mem_cons_of_mem _ hb)) hr⟩
 exact all X.outer (λ_ hb=>hb) I.ok.funs
theorem qx.stack (I:qx X pins σ H s):s.heap.FunFrames X.base X.stack:=by
 rcases I.ok.stk with e | ⟨e,hf⟩
 . rw[e];exact I.funs
 . rw[e]
   obtain⟨m,hn,_⟩:=I.loc
   refine .cons (by rw[I.ok.kind];decide) hf hn ?_ I.funs
   exact Heap.get?_none_of_le (Nat.le_trans I.ok.bsz I.ok.above)
theorem qx.stkSub (I:qx X pins σ H s):∀b∈zD X.stack,b∈X.env.locals::X.fs:=λb hb=>by
 rcases I.ok.stk with e | ⟨e,hf⟩
 . rw[e]at hb;exact List.mem_cons_of_mem _ hb
 . rw[e]at hb
   unfold zD at hb
   rw[List.filterMap_cons,hf]at hb
   exact hb
theorem qx.stkFree (I:qx X pins σ H s):∀b∈zD X.stack,H b=none:=λb hb=>by
 rcases List.mem_cons.mp (I.stkSub b hb) with e | hb
 . rw[e];exact I.free
 . obtain⟨_,o,ho,_⟩:=I.ok.funs.mem hb
   exact I.base.free b o ho (I.ok.frf b hb) λz=>I.ok.exfs b z hb
theorem qx.step {g':Array GenState} {t':Nat} {d':Drawn} {ch:List Addr} (I:qx X pins σ H s)
   (hch:∀b∈ch,(b∈X.ex\/X.s₀.heap.objs.size<=b)/\b≠X.env.locals/\(∀x c,X.env.cells.lookup x=some c->c≠b)/\∀p∈X.pn++pins,p.1≠b)
   (keep:∀b o,b≠X.env.locals->b∉X.fs->b∉ch->s.heap.get? b=some o->H b=none->h'.get? b=some o)
   (slot:∀b o,b≠X.env.locals->b∈X.fs->b∉ch->s.heap.get? b=some o->H b=none->∃sl,h'.get? b=some {o with slots:=sl}) (free:∀b o,b∉ch->s.heap.get? b=some o->H b=none->H' b=none)
   (there:∀b o,b∉ch->s.heap.get? b=some o->∃o',h'.get? b=some o')
   (tups:∀b xs,H b=some (.tup xs)->H' b=some (.tup xs)) (frzs:∀b o u,H b=some (.frz o u)->H' b=some (.frz o u)) (tbls:∀b ps,H b=some (.tbl ps)->∃more,H' b=some (.tbl (ps++more)))
   (ns:∀m,s.heap.Ns X.env.locals m->h'.Ns X.env.locals m) (hok:Jk X.prog X.w H' h') (hg:AllBare g'):
   qx X pins σ H' {s with heap:=h',gens:=g',drawn:=d',toks:=t'}:=by
 have neL:∀b o,X.s₀.heap.get? b=some o->b≠X.env.locals:=λb o e=>Nat.ne_of_lt (Nat.lt_of_lt_of_le (Heap.lt_size e) I.ok.above)
 have neC:∀b o,X.s₀.heap.get? b=some o->b∉X.ex->b∉ch:=λb o e hx hb=>by
   rcases(hch b hb).1 with z | z
   . exact hx z
   . exact absurd (Nat.lt_of_lt_of_le (Heap.lt_size e) z) (Nat.lt_irrefl _)
 have cellK:∀x c,X.env.cells.lookup x=some c->∀v,s.heap.IsCell c v->h'.IsCell c v:=λx c e v ⟨o,ho,hd⟩=>by
   have nch:c∉ch:=λz=>(hch c z).2.2.1 x c e rfl
   by_cases hc:c∈X.fs
   . obtain⟨sl,q⟩:=slot c o (I.cne x c e) hc nch ho (I.freeC x c e)
     exact⟨_,q,hd⟩
   . exact⟨o,keep c o (I.cne x c e) hc nch ho (I.freeC x c e),hd⟩
 refine⟨I.ok,I.os,hg,⟨λb o e n hb hx=>?_,λb o e n hb hx=>?_,λb o e n hx=>?_,λb o e hx=>?_,λb xs e=>tups b xs (I.base.tups b xs e),λb o xs e=>frzs b o xs (I.base.frzs b o xs e),λb ps e=>?_⟩,?_,λx c e=>?_,?_,λx c e=>?_,λp hp=>?_,hok,I.len⟩
 . exact keep b o (neL b o e) hb (neC b o e hx) (I.base.keep b o e n hb hx) (I.base.free b o e n hx)
 . obtain⟨sl,e1⟩:=I.base.slot b o e n hb hx
   obtain⟨sl',e2⟩:=slot b _ (neL b o e) hb (neC b o e hx) e1 (I.base.free b o e n hx)
   exact⟨sl',e2⟩
 . obtain⟨o',e1⟩:=I.base.there b o e hx
   exact free b o' (neC b o e hx) e1 (I.base.free b o e n hx)
 . obtain⟨o',e1⟩:=I.base.there b o e hx
   exact there b o' (neC b o e hx) e1
 . obtain⟨m1,e1⟩:=I.base.tbls b ps e
   obtain⟨m2,e2⟩:=tbls b _ e1
   exact⟨m1++m2,by rw[e2,Array.append_assoc]⟩
 . obtain⟨m,hn,hl⟩:=I.loc
   refine⟨m,ns m hn,λi x v e1 e2 e3=>?_⟩
   obtain⟨u,r,l⟩:=hl i x v e1 e2 e3
   refine⟨u,r,?_⟩
   rcases l with l | ⟨k,c,e,z⟩
   . exact .inl l
   . exact .inr ⟨k,c,e,cellK x c e _ z⟩
 . obtain⟨v,z⟩:=I.cell x c e
   exact⟨v,cellK x c e v z⟩
 . obtain⟨m,⟨o,_,_,ho,_⟩,_⟩:=I.loc
   exact free _ o (λz=>(hch _ z).2.1 rfl) ho I.free
 . obtain⟨v,o,ho,hd⟩:=I.cell x c e
   exact free c o (λz=>(hch c z).2.2.1 x c e rfl) ho (I.freeC x c e)
 . obtain⟨e,n,ne,nf,d⟩:=I.pin p hp
   have nch:p.1∉ch:=λz=>(hch p.1 z).2.2.2 p hp rfl
   exact⟨keep p.1 p.2 ne nf nch e n,free p.1 p.2 nch e n,ne,nf,d⟩
theorem qx.un {t':Nat} (I:qx X pins σ H s) (u:Un X.fs [] H H' s.heap h') (hok:Jk X.prog X.w H' h'):qx X pins σ H' {s with heap:=h',toks:=t'}:=by
 obtain⟨m,⟨o,es,ep,ho,r⟩,_⟩:=id I.loc
 obtain⟨sl,hL⟩:=u.any ho I.free (by simp)
 exact I.step (g':=s.gens) (d':=s.drawn) (ch:=[]) (λ_ z=>nomatch z) (λb o _ hb _ e n=>u.keep b o e n hb (by simp)) (λb o _ hb _ e n=>u.slot b o e n hb (by simp)) (λb o _ e n=>u.free b o e n (by simp)) (λb o _ e=>u.there b o e (by simp)) u.tups u.frzs u.tbls (λm' hm=>by
   obtain⟨o',es',ep',ho',r'⟩:=hm
   rw[ho]at ho';cases ho'
   exact⟨_,es',ep',hL,r'⟩) hok I.bare
theorem qx.call {g':Array GenState} {t':Nat} {d':Drawn} {ch:List Addr} (I:qx X pins σ H s) (u:Un (zD X.stack) ch H H' s.heap h') (hok:Jk X.prog X.w H' h') (hg:AllBare g')
   (hch:∀b∈ch,(b∈X.ex\/X.s₀.heap.objs.size<=b)/\b≠X.env.locals/\(∀x c,X.env.cells.lookup x=some c->c≠b)/\∀p∈X.pn++pins,p.1≠b):
   qx X pins σ H' {s with heap:=h',gens:=g',drawn:=d',toks:=t'}:=by
 obtain⟨m,⟨o,es,ep,ho,r⟩,_⟩:=id I.loc
 obtain⟨sl,hL⟩:=u.any ho I.free λz=>(hch _ z).2.1 rfl
 exact I.step (ch:=ch) hch (λb o hL hb hc e n=>u.keep b o e n (λz=>(List.mem_cons.mp (I.stkSub b z)).elim hL hb) hc) (λb o _ _ hc e n=>u.any e n hc) (λb o hc e n=>u.free b o e n hc) (λb o hc e=>u.there b o e hc) u.tups u.frzs u.tbls (λm' hm=>by
   obtain⟨o',es',ep',ho',r'⟩:=hm
   rw[ho]at ho';cases ho'
   exact⟨_,es',ep',hL,r'⟩) hok hg
theorem qx.turned {t':Nat} {it:Addr} (I:qx X pins σ H s) (k:∀b o,b≠it->s.heap.get? b=some o->h'.get? b=some o) (hn:H it=none) (hL:it≠X.env.locals)
   (h1:it∈X.ex\/X.s₀.heap.objs.size<=it) (h2:∀x c,X.env.cells.lookup x=some c->c≠it) (h3:∀p∈X.pn++pins,p.1≠it):qx X pins σ H {s with heap:=h',toks:=t'}:=by
 have nit:∀b u,H b=some u->b≠it:=λb u e z=>by rw[z,hn]at e;cases e
 refine I.step (g':=s.gens) (d':=s.drawn) (ch:=[it]) (λb hb=>?_) (λb o _ _ hc e _=>k b o (λz=>hc (by simp [z])) e) (λb o _ _ hc e _=>⟨o.slots,k b o (λz=>hc (by simp [z])) e⟩) (λ_ _ _ _ n=>n)
   (λb o hc e=>⟨o,k b o (λz=>hc (by simp [z])) e⟩) (λ_ _ e=>e) (λ_ _ _ e=>e) (λb ps e=>⟨#[],by rw[e];simp⟩) (λm hm=>?_) (λb u e=>?_) I.bare
 . have e:b=it:=by simpa using hb
   subst e
   exact⟨h1,hL,h2,h3⟩
 . obtain⟨o,es,ep,ho,r⟩:=hm
   exact⟨o,es,ep,k _ o (Ne.symm hL) ho,r⟩
 . refine(I.hok b u e).stay (λc v hc q=>k c v ?_ q) (λ_ q=>q) λ_ _ q=>q
   rcases hc with z | z
   . rw[z];exact nit b u e
   . exact nit c _ z
theorem qx.tok (I:qx X pins σ H s) (t:Nat):qx X pins σ H {s with toks:=t}:=I.un (h':=s.heap) (t':=t) Un.refl I.hok
theorem qx.kept {t':Nat} (I:qx X pins σ H s) (k:∀b u,s.heap.get? b=some u->h'.get? b=some u):qx X pins σ H {s with heap:=h',toks:=t'}:=I.un (Un.kept k) (I.hok.kept k)
theorem qx.laid {a:Addr} {o:HO} {t':Nat} (I:qx X pins σ H s) (k:∀b u,s.heap.get? b=some u->h'.get? b=some u) (hp:s.heap.objs.size<=a) (new:qG X.prog X.w (upd H a o) h' a o):
   qx X pins σ (upd H a o) {s with heap:=h',toks:=t'}:=I.un (Un.laid k hp (I.hok.fresh hp)) (I.hok.laid k hp new)
theorem qx.write {x e:Addr} {o:HO} {t':Nat} (I:qx X pins σ H s) (mu:No (H x)) (he:e=x\/H e=some (.own x)) (k:∀b u,b≠e->s.heap.get? b=some u->h'.get? b=some u) (heo:∃u,h'.get? e=some u)
   (new:qG X.prog X.w (upd H x o) h' x o):qx X pins σ (upd H x o) {s with heap:=h',toks:=t'}:=I.un (Un.write mu he k heo) (I.hok.write mu he k heo new)
theorem qx.pins_of {pins':List (Addr×Obj)} (I:qx X pins σ H s) (h:∀p∈pins',s.heap.get? p.1=some p.2/\H p.1=none/\p.1≠X.env.locals/\p.1∉X.fs/\∀v,p.2.data≠.cell v):qx X pins' σ H s:=
 ⟨I.ok,I.os,I.bare,I.base,I.loc,I.cell,I.free,I.freeC,λp hp=>(List.mem_append.mp hp).elim (λz=>I.pin p (List.mem_append_left _ z)) (h p),I.hok,I.len⟩
theorem YA {N:List Str} (hN:N.Nodup) {i j:Nat} {x:Str} (a:N[i]?=some x) (b:N[j]?=some x):i=j:=by
 obtain⟨h1,e1⟩:=List.getElem?_eq_some_iff.mp a
 obtain⟨h2,e2⟩:=List.getElem?_eq_some_iff.mp b
 exact(List.getElem_inj hN).mp (e1.trans e2.symm)
theorem Xa {M:Model} {A:Around} {E:Value->Shared->Prop} {i:Nat} {x:Str} {v:V} {u:Value} {Q:Unit->Shared->Prop} (I:qx X pins σ H s) (hN:X.N.Nodup) (hi:X.N[i]?=some x) (hx:Np X.env.scope x) (r:qK v u)
   (h:∀s',qx X pins (σ.set i (some v)) H s'->(∃a,Heap.SameBut a s.heap s'.heap/\(a=X.env.locals\/X.env.cells.lookup x=some a))->Q () s') (hf:X.fn x=true\/X.env.scope.names.lookup x=some .local:=by first | exact .inl rfl | exact .inr rfl | assumption):wpAny M A (storeName X.env x u) Q E s:=by
 obtain⟨m,hn,hl⟩:=id I.loc
 have hcls:(X.env.scope.kind==.class || (X.env.scope.kind==.module&&X.env.locals != X.env.globals))=false:=by rw[I.ok.kind];rfl
 have hiσ:i < σ.length:=by rw[I.len];exact(List.getElem?_eq_some_iff.mp hi).1
 have cne:=I.cne
 have tracked:∀{a:Addr} {h':Heap},(∃o,s.heap.get? a=some o/\H a=none)->Heap.SameBut a s.heap h'->Jk X.prog X.w H h':=λ{a h'} ha hs b ob e=>by
   obtain⟨_,_,hfree⟩:=ha
   refine(I.hok b ob e).stay (λc w' hc q=>(hs.2 c ?_).trans q) (λ_ q=>q) λ_ _ q=>q
   rintro rfl
   rcases hc with rfl | hc
   . rw[hfree]at e;cases e
   . rw[hfree]at hc;cases hc
 rcases hx with hk | hk
 . refine wpAny_storeName_local hk hn (λh' hn' hs=>?_) hcls
   obtain⟨oL,_,_,hoL,_⟩:=id hn
   refine h _ ⟨I.ok,I.os,I.bare,⟨λb o e n hb hx=>?_,λb o e n hb hx=>?_,I.base.free,λb o e hx=>?_,I.base.tups,I.base.frzs,I.base.tbls⟩,⟨_,hn',λj y v' e1 e2 e3=>?_⟩,λy c e=>?_,I.free,I.freeC,λp hp=>?_,tracked ⟨oL,hoL,I.free⟩ hs,by simpa using I.len⟩ ⟨_,hs,.inl rfl⟩
   . exact(hs.2 b (Nat.ne_of_lt (Nat.lt_of_lt_of_le (Heap.lt_size e) I.ok.above))).trans (I.base.keep b o e n hb hx)
   . obtain⟨sl,e1⟩:=I.base.slot b o e n hb hx
     exact⟨sl,(hs.2 b (Nat.ne_of_lt (Nat.lt_of_lt_of_le (Heap.lt_size e) I.ok.above))).trans e1⟩
   . obtain⟨o',e1⟩:=I.base.there b o e hx
     exact⟨o',(hs.2 b (Nat.ne_of_lt (Nat.lt_of_lt_of_le (Heap.lt_size e) I.ok.above))).trans e1⟩
   . by_cases hj:j=i
     . subst hj
       rw[hi]at e1;cases e1
       rw[List.getElem?_set_self hiσ]at e2
       cases e2
       exact⟨u,r,.inl ⟨hk,by simp⟩⟩
     . rw[List.getElem?_set_ne (Ne.symm hj)]at e2
       obtain⟨u',r',q⟩:=hl j y v' e1 e2 e3
       refine⟨u',r',?_⟩
       rcases q with ⟨k,e⟩ | ⟨k,c,e,z⟩
       . refine .inl ⟨k,?_⟩
         have:y≠x:=λe=>hj (YA hN e1 (e▸hi))
         simp [this,e]
       . exact .inr ⟨k,c,e,z.sameBut hs (cne y c e)⟩
   . obtain⟨w',z⟩:=I.cell y c e
     exact⟨w',z.sameBut hs (cne y c e)⟩
   . obtain⟨e,n,ne,nf,d⟩:=I.pin p hp
     exact⟨(hs.2 p.1 ne).trans e,n,ne,nf,d⟩
 . have hfn:X.fn x=true:=by
     rcases hf with z | z
     . exact z
     . rw[z]at hk;cases hk
   obtain⟨c,hc⟩:=I.ok.has x (.inl hk)
   obtain⟨w',z⟩:=I.cell x c hc
   refine wpAny_storeName_cell I.ok.kind hk hc z (λh' hc' hs=>?_)
   obtain⟨oc,hoc,hocd⟩:=id z
   refine h {s with heap:=h'} ⟨I.ok,I.os,I.bare,⟨λb o e n hb hx=>?_,λb o e n hb hx=>?_,I.base.free,λb o e hx=>?_,I.base.tups,I.base.frzs,I.base.tbls⟩,⟨m,hn.sameBut hs (Ne.symm (cne x c hc)),λj y v' e1 e2 e3=>?_⟩,λy c' e=>?_,I.free,I.freeC,λp hp=>?_,tracked ⟨oc,hoc,I.freeC x c hc⟩ hs,by simpa using I.len⟩ ⟨c,hs,.inr hc⟩
   . exact(hs.2 b (Nat.ne_of_lt (Nat.lt_of_lt_of_le (Heap.lt_size e) (I.ok.cab x c hfn hc)))).trans (I.base.keep b o e n hb hx)
   . obtain⟨sl,e1⟩:=I.base.slot b o e n hb hx
     exact⟨sl,(hs.2 b (Nat.ne_of_lt (Nat.lt_of_lt_of_le (Heap.lt_size e) (I.ok.cab x c hfn hc)))).trans e1⟩
   . obtain⟨o',e1⟩:=I.base.there b o e hx
     exact⟨o',(hs.2 b (Nat.ne_of_lt (Nat.lt_of_lt_of_le (Heap.lt_size e) (I.ok.cab x c hfn hc)))).trans e1⟩
   . by_cases hj:j=i
     . subst hj
       rw[hi]at e1;cases e1
       rw[List.getElem?_set_self hiσ]at e2
       cases e2
       exact⟨u,r,.inr ⟨.inl hk,c,hc,hc'⟩⟩
     . rw[List.getElem?_set_ne (Ne.symm hj)]at e2
       obtain⟨u',r',q⟩:=hl j y v' e1 e2 e3
       refine⟨u',r',?_⟩
       rcases q with q | ⟨k,c',e,z'⟩
       . exact .inl q
       . refine .inr ⟨k,c',e,z'.sameBut hs ?_⟩
         rintro rfl
         exact hj (YA hN e1 (I.ok.inj _ _ _ e hc▸hi))
   . by_cases hcc:c'=c
     . subst hcc;exact⟨_,hc'⟩
     . obtain⟨w2,z2⟩:=I.cell y c' e
       exact⟨w2,z2.sameBut hs hcc⟩
   . obtain⟨e,n,ne,nf,d⟩:=I.pin p hp
     refine⟨(hs.2 p.1 ?_).trans e,n,ne,nf,d⟩
     intro q
     rw[q,hoc]at e
     have q':oc=p.2:=Option.some.inj e
     exact d w' (by rw[<-q'];exact hocd)
theorem Zx {M:Model} {A:Around} {E:Value->Shared->Prop} {i:Nat} {x:Str} {v:V} {u:Value} {Q:Unit->Shared->Prop} (I:qx X pins σ H s) (hN:X.N.Nodup) (hi:X.N[i]?=some x) (hx:Np X.env.scope x) (r:qK v u)
   (h:∀s',qx X pins (σ.set i (some v)) H s'->Q () s') (hf:X.fn x=true\/X.env.scope.names.lookup x=some .local:=by first | exact .inl rfl | exact .inr rfl | assumption):wpAny M A (storeName X.env x u) Q E s:=
 Xa I hN hi hx r (λs' I' _=>h s' I') hf
theorem qx.call' {s':Shared} {ch:List Addr} (I:qx X pins σ H s) (ho:s'.os=s.os) (u:Un (zD X.stack) ch H H' s.heap s'.heap) (hok:Jk X.prog X.w H' s'.heap) (hg:AllBare s'.gens)
   (hch:∀b∈ch,(b∈X.ex\/X.s₀.heap.objs.size<=b)/\b≠X.env.locals/\(∀x c,X.env.cells.lookup x=some c->c≠b)/\∀p∈X.pn++pins,p.1≠b):qx X pins σ H' s':=by
 obtain⟨h',g',d',t',o'⟩:=s'
 have e:o'=s.os:=ho
 subst e
 exact I.call (g':=g') (t':=t') (d':=d') u hok hg hch
end
abbrev XK:=Value->Option Addr->Hp->Prop
abbrev St:=List (Option V)
abbrev VK:=V->Hp->Prop
abbrev TE:=St->Hp->VK->Prop
abbrev TT:=St->Hp->(Bool->Hp->Prop)->Prop
abbrev TA:=St->Hp->(List V->Hp->Prop)->Prop
structure QS where
 nx:St->Hp->Prop
 rt:VK
 bk:St->Hp->Prop:=λ_ _=>False
 ct:St->Hp->Prop:=λ_ _=>False
abbrev TS:=QS->St->Hp->Prop
def EP (X:Cx) (pins:List (Addr×Obj)) (σ:St) (Q:VK) (u:Value) (s':Shared):Prop:=∃v H',qx X pins σ H' s'/\qK v u/\Q v H'
def TP (X:Cx) (pins:List (Addr×Obj)) (σ:St) (Q:Bool->Hp->Prop) (b:Bool) (s':Shared):Prop:=∃H',qx X pins σ H' s'/\Q b H'
def AP (X:Cx) (pins:List (Addr×Obj)) (σ:St) (Q:List V->Hp->Prop) (us:List Value) (s':Shared):Prop:=∃vs H',qx X pins σ H' s'/\qD vs us/\Q vs H'
def SP (X:Cx) (pins:List (Addr×Obj)) (D:QS) (f:Flow) (s':Shared):Prop:=
 match f with
 | .next=>∃σ' H',qx X pins σ' H' s'/\D.nx σ' H'
 | .brk=>∃σ' H',qx X pins σ' H' s'/\D.bk σ' H'
 | .cont=>∃σ' H',qx X pins σ' H' s'/\D.ct σ' H'
 | .ret u=>∃v σ' H',qx X pins σ' H' s'/\qK v u/\D.rt v H'
def PE (X:Cx) (e:Expr) (t:TE):Prop:=
 ∀(pins:List (Addr×Obj)) (s:Shared) (σ:St) (H:Hp) (Q:VK),qx X pins σ H s->t σ H Q->wpAny (model X.prog X.w) X.A (eval e X.env) (EP X pins σ Q) X.xe s
@[irreducible] def JE (X:Cx) (e:Expr) (t:TE):Prop:=PE X e t
theorem JE.of {X:Cx} {e:Expr} {t:TE} (h:PE X e t):JE X e t:=by unfold JE;exact h
theorem JE.to {X:Cx} {e:Expr} {t:TE} (h:JE X e t):PE X e t:=by unfold JE at h;exact h
def PT (X:Cx) (e:Expr) (t:TT):Prop:=
 ∀(pins:List (Addr×Obj)) (s:Shared) (σ:St) (H:Hp) (Q:Bool->Hp->Prop),qx X pins σ H s->t σ H Q->wpAny (model X.prog X.w) X.A (isTrue e X.env (eval e X.env)) (TP X pins σ Q) X.xe s
@[irreducible] def JT (X:Cx) (e:Expr) (t:TT):Prop:=PT X e t
theorem JT.of {X:Cx} {e:Expr} {t:TT} (h:PT X e t):JT X e t:=by unfold JT;exact h
theorem JT.to {X:Cx} {e:Expr} {t:TT} (h:JT X e t):PT X e t:=by unfold JT at h;exact h
def PW (X:Cx) (e:Expr) (t:TT):Prop:=
 ∀(whole:Sem Value) (pins:List (Addr×Obj)) (s:Shared) (σ:St) (H:Hp) (Q:Bool->Hp->Prop),qx X pins σ H s->t σ H Q->wpAny (model X.prog X.w) X.A (isTrue e X.env whole) (TP X pins σ Q) X.xe s
theorem PW.pt {X:Cx} {e:Expr} {t:TT} (h:PW X e t):PT X e t:=h _
@[irreducible] def JW (X:Cx) (e:Expr) (t:TT):Prop:=PW X e t
theorem JW.of {X:Cx} {e:Expr} {t:TT} (h:PW X e t):JW X e t:=by unfold JW;exact h
theorem JW.to {X:Cx} {e:Expr} {t:TT} (h:JW X e t):PW X e t:=by unfold JW at h;exact h
theorem JW.pt {X:Cx} {e:Expr} {t:TT} (h:JW X e t):JT X e t:=.of h.to.pt
def PA (X:Cx) (es:List Expr) (t:TA):Prop:=
 ∀(pos:Pos) (pins:List (Addr×Obj)) (s:Shared) (σ:St) (H:Hp) (Q:List V->Hp->Prop),qx X pins σ H s->t σ H Q->wpAny (model X.prog X.w) X.A (spliced (backTo pos (starEach es X.env))) (AP X pins σ Q) X.xe s
@[irreducible] def JA (X:Cx) (es:List Expr) (t:TA):Prop:=PA X es t
theorem JA.of {X:Cx} {es:List Expr} {t:TA} (h:PA X es t):JA X es t:=by unfold JA;exact h
theorem JA.to {X:Cx} {es:List Expr} {t:TA} (h:JA X es t):PA X es t:=by unfold JA at h;exact h
def PS (X:Cx) (st:Stmt) (t:TS):Prop:=
 ∀(pins:List (Addr×Obj)) (s:Shared) (σ:St) (H:Hp) (D:QS),qx X pins σ H s->t D σ H->wpAny (model X.prog X.w) X.A (exec st X.env) (SP X pins D) X.xe s
@[irreducible] def JS (X:Cx) (st:Stmt) (t:TS):Prop:=PS X st t
theorem JS.of {X:Cx} {st:Stmt} {t:TS} (h:PS X st t):JS X st t:=by unfold JS;exact h
theorem JS.to {X:Cx} {st:Stmt} {t:TS} (h:JS X st t):PS X st t:=by unfold JS at h;exact h
def ub (X:Cx) (st:List Stmt) (t:TS):Prop:=
 ∀(pins:List (Addr×Obj)) (s:Shared) (σ:St) (H:Hp) (D:QS),qx X pins σ H s->t D σ H->wpAny (model X.prog X.w) X.A (execs st X.env) (SP X pins D) X.xe s
@[irreducible] def WJ (X:Cx) (st:List Stmt) (t:TS):Prop:=ub X st t
theorem WJ.of {X:Cx} {st:List Stmt} {t:TS} (h:ub X st t):WJ X st t:=by unfold WJ;exact h
theorem WJ.to {X:Cx} {st:List Stmt} {t:TS} (h:WJ X st t):ub X st t:=by unfold WJ at h;exact h
theorem q5 {α:Type} {t:Sem α} {Q Q':α->Shared->Prop} {M:Model} {A:Around} {E:Value->Shared->Prop} {s:Shared} (h:wpAny M A t Q E s) (hQ:∀a s,Q a s->Q' a s):wpAny M A t Q' E s:=wpAny_mono h hQ λ_ _ x=>x
end L2
namespace L2
open PySem PySem.Spec PyProof.Rows
section
variable {X:Cx}
def qU (i:Nat):TE:=λσ H Q=>∃v,σ[i]?=some (some v)/\Q v H
def tC (v:V):TE:=λ_ H Q=>Q v H
theorem xi {i:Nat} {x:Str} {pos:Pos} (hN:X.N[i]?=some x) (hv:Ni X.env.scope x) (hd:(x==("__debug__":Str))=false:=by decide) (hcd:(x==("__classdict__":Str))=false:=by decide):PE X (.Name x pos) (qU i):=by
 intro pins s σ H Q I h
 obtain⟨v,e,h⟩:=h
 obtain⟨m,hn,hl⟩:=I.loc
 obtain⟨u,r,l⟩:=hl i x v hN e hv
 have fin:EP X pins σ Q u s:=⟨v,H,I,r,h⟩
 rcases l with ⟨hk,hm⟩ | ⟨hk,c,hc,hcell⟩
 . exact wpAny_Name (wpAny_loadName_local I.ok.kind hk hn hm fin) hd
 . rcases hk with hk | hk
   . exact wpAny_Name (wpAny_loadName_cell I.ok.kind hk hc hcell fin) hd
   . exact wpAny_Name (wpAny_loadName_free I.ok.kind hk hc hcell fin hcd) hd
theorem qi {i j pos}:JE X (.Constant (.int i) j pos) (tC (.int i)):=.of (by
 exact λ_ _ _ H _ I h=>wpAny_Constant_int ⟨.int i,H,I.tok _,⟨_,rfl⟩,h⟩)
theorem jG {b j pos}:JE X (.Constant (.bool b) j pos) (tC (.bl b)):=.of (by
 exact λ_ _ _ H _ I h=>Constant_bool ⟨.bl b,H,I,rfl,h⟩)
theorem Wv {j pos}:JE X (.Constant .none j pos) (tC .non):=.of (by
 exact λ_ _ _ H _ I h=>Constant_none ⟨.non,H,I,rfl,h⟩)
theorem qI {x j pos}:JE X (.Constant (.str x) j pos) (tC (.str x)):=.of (by
 exact λ_ _ _ H _ I h=>Calls.Constant_str ⟨.str x,H,I.tok _,⟨_,rfl⟩,h⟩)
def Gl (X:Cx) (x:Str):Prop:=X.env.kindOf x=some .globalImplicit
theorem zS {E:Value->Shared->Prop} {pins:List (Addr×Obj)} {s:Shared} {σ:St} {H:Hp} {x:Str} {u:Value} {pos:Pos} {Q:Value->Shared->Prop} (I:qx X pins σ H s) (hg:Gl X x) (hm:X.mg x=some u) (h:Q u s)
   (hd:(x==("__debug__":Str))=false:=by decide):wpAny (model X.prog X.w) X.A (eval (.Name x pos) X.env) Q E s:=
 Calls.Name_function_global I.ok.kind hg (Calls.loadGlobal_global (by rw[I.ok.glob];exact I.mod.glob.keeps I.bk) hm h) hd
theorem Q4 {E:Value->Shared->Prop} {pins:List (Addr×Obj)} {s:Shared} {σ:St} {H:Hp} {x:Str} {u:Value} {pos:Pos} {Q:Value->Shared->Prop} (I:qx X pins σ H s) (hg:Gl X x) (hm:X.mg x=none) (hv:bootBuiltins x=some u) (h:Q u s)
   (hn:x≠"__name__":=by decide) (hd:(x==("__debug__":Str))=false:=by decide):wpAny (model X.prog X.w) X.A (eval (.Name x pos) X.env) Q E s:=by
 obtain⟨mb,h1,h2⟩:=I.mod.blt
 exact Calls.Name_function_global I.ok.kind hg (Calls.loadGlobal_builtin (by rw[I.ok.glob];exact I.mod.glob.keeps I.bk) hm (by rw[I.ok.blt];exact h1.keeps I.bk) ((h2 x hn).trans hv) h) hd
theorem ve {x:Str} {v:V} {u:Value} {pos:Pos} (hg:Gl X x) (hm:X.mg x=some u) (r:qK v u) (hd:(x==("__debug__":Str))=false:=by decide):PE X (.Name x pos) (tC v):=
 λ_ _ _ H _ I h=>zS I hg hm ⟨v,H,I,r,h⟩ hd
theorem QD {x:Str} {v:V} {u:Value} {pos:Pos} (hg:Gl X x) (hm:X.mg x=some u) (r:qK v u) (hd:(x==("__debug__":Str))=false:=by decide):JE X (.Name x pos) (tC v):=.of (ve hg hm r hd)
theorem Qn {x:Str} {v:V} {u:Value} {pos:Pos} (hg:Gl X x) (hm:X.mg x=none) (hv:bootBuiltins x=some u) (r:qK v u) (hn:x≠"__name__":=by decide) (hd:(x==("__debug__":Str))=false:=by decide):JE X (.Name x pos) (tC v):=.of (by
 exact λ_ _ _ H _ I h=>Q4 I hg hm hv ⟨v,H,I,r,h⟩ hn hd)
variable {a b:Expr} {ta tb:TE} {pos:Pos}
def PC (X:Cx) (op:CmpOp) (a b:Expr) (t:TE):Prop:=
 ∀(pins:List (Addr×Obj)) (s:Shared) (σ:St) (H:Hp) (Q:VK),qx X pins σ H s->t σ H Q->
   wpAny (model X.prog X.w) X.A (eval a X.env) (λv s₁=>wpAny (model X.prog X.w) X.A (eval b X.env) (λu s₂=>wpAny (model X.prog X.w) X.A (compareOp op v u) (EP X pins σ Q) X.xe s₂) X.xe s₁) X.xe s
@[irreducible] def JC (X:Cx) (op:CmpOp) (a b:Expr) (t:TE):Prop:=PC X op a b t
theorem JC.of {X:Cx} {op:CmpOp} {a b:Expr} {t:TE} (h:PC X op a b t):JC X op a b t:=by unfold JC;exact h
theorem JC.to {X:Cx} {op:CmpOp} {a b:Expr} {t:TE} (h:JC X op a b t):PC X op a b t:=by unfold JC at h;exact h
def tB (t:TE):TT:=λσ H Q=>t σ H λx H1=>∃c,x=.bl c/\Q c H1
theorem Qa {op:CmpOp} {t:TE} (h:JC X op a b t) (h1:behindInMarks op b=false:=by first | exact nobehind _ (by decide) (by decide) | rfl):JT X (.Compare a [op] [b] pos) (tB t):=.of (by
 have h:=h.to
 intro pins s σ H Q I hw
 refine wpAny_isTrue_Compare1 (q5 (h pins s σ H _ I hw) λv s1 h1=>q5 h1 λu s2 h2=>q5 h2 λc s3 ⟨x,H1,I1,r1,q1⟩=>?_) h1
 obtain⟨d,rfl,q⟩:=q1
 cases r1
 exact wpAny_truthy_bool ⟨H1,I1,q⟩)
theorem jd {e:Expr} {t:TE} (h:JE X e t) (he:∀whole,isTrue e X.env whole=(do let v <-whole;standAt e.pos;holding [v] (truthy v)):=by intro _;rfl):JT X e (tB t):=.of (by
 have h:=h.to
 intro pins s σ H Q I hw
 refine isTrue_plain (q5 (h pins s σ H _ I hw) λv s1 ⟨x,H1,I1,r1,q1⟩=>?_) (he _)
 obtain⟨d,rfl,q⟩:=q1
 cases r1
 exact wpAny_truthy_bool ⟨H1,I1,q⟩)
variable {tA tB':TT} {rest:List Expr}
def GY (t u:TT):TT:=λσ H Q=>t σ H λc H1=>if c=true then u σ H1 Q else Q false H1
def tOr (t u:TT):TT:=λσ H Q=>t σ H λc H1=>if c=true then Q true H1 else u σ H1 Q
def MO (t:TT):TT:=λσ H Q=>t σ H λc H1=>Q (!c) H1
theorem jX (ha:JT X a tA):JW X (.BoolOp .And [a] pos) tA:=.of (by
 have ha:=ha.to
 intro wh pins s σ H Q I h
 refine isTrue_and (q5 (ha pins s σ H Q I h) λc s1 e=>?_)
 cases c with
 | true=>exact isTrue_and_nil e
 | false=>exact e)
theorem Qh (ha:JT X a tA):JW X (.BoolOp .Or [a] pos) tA:=.of (by
 have ha:=ha.to
 intro wh pins s σ H Q I h
 refine isTrue_or (q5 (ha pins s σ H Q I h) λc s1 e=>?_)
 cases c with
 | false=>exact isTrue_or_nil e
 | true=>exact e)
theorem Qi (ha:JT X a tA) (hb:JW X (.BoolOp .And (b::rest) pos) tB'):JW X (.BoolOp .And (a::b::rest) pos) (GY tA tB'):=.of (by
 have ha:=ha.to
 have hb:=hb.to
 intro wh pins s σ H Q I h
 refine isTrue_and (q5 (ha pins s σ H _ I h) λc s1 ⟨H1,I1,q1⟩=>?_)
 cases c with
 | true=>exact hb wh pins s1 σ H1 Q I1 q1
 | false=>exact⟨H1,I1,q1⟩)
theorem QO (ha:JT X a tA) (hb:JW X (.BoolOp .Or (b::rest) pos) tB'):JW X (.BoolOp .Or (a::b::rest) pos) (tOr tA tB'):=.of (by
 have ha:=ha.to
 have hb:=hb.to
 intro wh pins s σ H Q I h
 refine isTrue_or (q5 (ha pins s σ H _ I h) λc s1 ⟨H1,I1,q1⟩=>?_)
 cases c with
 | true=>exact⟨H1,I1,q1⟩
 | false=>exact hb wh pins s1 σ H1 Q I1 q1)
theorem j9 (ha:JT X a tA):JT X (.UnaryOp .Not a pos) (MO tA):=.of (by
 have ha:=ha.to
 intro pins s σ H Q I h
 exact isTrue_not (ha pins s σ H (λc H1=>Q (!c) H1) I h))
def NJ (ta tb:TE):TE:=λσ H Q=>ta σ H λx H1=>∃c,x=.bl c/\if c=true then tb σ H1 Q else Q (.bl false) H1
def NE (ta:TE):TE:=λσ H Q=>ta σ H λx H1=>∃c,x=.bl c/\Q (.bl (!c)) H1
theorem Z9 {op} {t:TE} (h:JE X a t):JE X (.BoolOp op [a] pos) t:=.of (by
 have h:=h.to
 exact λpins s σ H Q I hw=>BoolOp_one (h pins s σ H Q I hw))
theorem JU (ha:JE X a ta) (hb:JE X (.BoolOp .And (b::rest) pos) tb):JE X (.BoolOp .And (a::b::rest) pos) (NJ ta tb):=.of (by
 have ha:=ha.to
 have hb:=hb.to
 intro pins s σ H Q I h
 refine BoolOp_and (q5 (ha pins s σ H _ I h) λv s1 ⟨x,H1,I1,r1,q1⟩=>?_)
 obtain⟨c,rfl,q1⟩:=q1
 cases r1
 refine wpAny_truthy_bool ?_
 cases c with
 | true=>exact hb pins s1 σ H1 Q I1 q1
 | false=>exact⟨.bl false,H1,I1,rfl,q1⟩)
theorem RV (ha:JE X a ta):JE X (.UnaryOp .Not a pos) (NE ta):=.of (by
 have ha:=ha.to
 intro pins s σ H Q I h
 refine UnaryOp_ (q5 (ha pins s σ H _ I h) λv s1 ⟨x,H1,I1,r1,q1⟩=>?_)
 obtain⟨c,rfl,q1⟩:=q1
 cases r1
 exact not_of (wpAny_truthy_bool ⟨.bl (!c),H1,I1,rfl,q1⟩))
end
end L2
namespace L2
open PySem PySem.Spec PyProof.Rows
def SqL (K:PySem.W.Frag) (H:Hp) (a:Addr) (xs:List V):Prop:=
 Rd H a (.lst xs)\/
   ∃(o:Obj) (its:Array Value) (n:Nat),K.lookup a=some o/\o.cls=.type "list"/\o.dict=none/\o.data=.seq its n/\its.size<=sizeLine/\qD xs its.toList
def SqT (K:PySem.W.Frag) (H:Hp) (a:Addr) (xs:List V):Prop:=
 Rd H a (.tup xs)\/
   ∃(o:Obj) (its:Array Value) (n:Nat),K.lookup a=some o/\o.cls=.type "tuple"/\o.data=.seq its n/\its.size<=sizeLine/\qD xs its.toList
def qaw:Value->Option V
 | .none=>some .non
 | .bool b=>some (.bl b)
 | .int i _=>some (.int i)
 | .str x _=>some (.str x)
 | .bytes b _=>some (.byt b)
 | .float b _=>some (.flt b)
 | .ref a=>some (.ref a)
 | .type n=>some (.ty n)
 | _=>none
theorem qK.abs {x:V} {u:Value} (r:qK x u):qaw u=some x:=by
 cases x with
 | non=>cases r;rfl
 | bl _=>cases r;rfl
 | int _=>obtain⟨t,rfl⟩:=r;rfl
 | str _=>obtain⟨t,rfl⟩:=r;rfl
 | byt _=>obtain⟨t,rfl⟩:=r;rfl
 | flt _=>obtain⟨t,rfl⟩:=r;rfl
 | ref _=>cases r;rfl
 | ty _=>cases r;rfl
theorem qK.inj {x y:V} {u:Value} (r:qK x u) (q:qK y u):x=y:=Option.some.inj (r.abs.symm.trans q.abs)
theorem qD.inj:∀{xs ys:List V} {us:List Value},qD xs us->qD ys us->xs=ys
 | _,_,_,.nil,.nil=>rfl
 | _,_,_,.cons r t,.cons r' t'=>by rw[r.inj r',qD.inj t t']
section
variable {X:Cx} {pins:List (Addr×Obj)} {σ:St} {H:Hp} {s:Shared} {a:Addr} {xs ys:List V}
theorem SqL.of {K:PySem.W.Frag} (h:H a=some (.lst xs)):SqL K H a xs:=.inl (.inl h)
theorem SqT.of {K:PySem.W.Frag} (h:H a=some (.tup xs)):SqT K H a xs:=.inl (.inl h)
theorem qx.list (I:qx X pins σ H s) (h:SqL X.K H a xs):∃its:List Value,qD xs its/\PlainL s.heap a its.toArray/\xs.length<=sizeLine:=by
 rcases h with h | ⟨o,its,n,hk,hc,hd,hs,hz,r⟩
 . obtain⟨z,its,n,r,e⟩:=h.ok I.hok
   exact⟨its,r,⟨_,n,e,rfl,rfl,rfl⟩,z⟩
 . refine⟨its.toList,r,⟨o,n,I.kIn a o hk,hc,hd,by simpa using hs⟩,?_⟩
   have e:=r.length
   simp only[Array.length_toList]at e
   omega
theorem qx.tuple (I:qx X pins σ H s) (h:SqT X.K H a xs):∃its:List Value,qD xs its/\IsTup s.heap a its.toArray/\xs.length<=sizeLine:=by
 rcases h with h | ⟨o,its,n,hk,hc,hs,hz,r⟩
 . obtain⟨z,its,r,p⟩:=h.ok I.hok
   exact⟨its,r,p,z⟩
 . refine⟨its.toList,r,⟨o,I.kIn a o hk,hc,n,by simpa using hs⟩,?_⟩
   have e:=r.length
   simp only[Array.length_toList]at e
   omega
theorem qx.list_inj (I:qx X pins σ H s) (h:SqL X.K H a xs) (h':SqL X.K H a ys):xs=ys:=by
 obtain⟨its,r,⟨o,n,e,_,_,d⟩,_⟩:=I.list h
 obtain⟨its',r',⟨o',n',e',_,_,d'⟩,_⟩:=I.list h'
 rw[e]at e';cases e'
 rw[d]at d'
 injection d' with d1 _
 have:its=its':=by simpa using congrArg Array.toList d1
 subst this
 exact r.inj r'
theorem qx.tuple_inj (I:qx X pins σ H s) (h:SqT X.K H a xs) (h':SqT X.K H a ys):xs=ys:=by
 obtain⟨its,r,⟨o,e,_,n,d⟩,_⟩:=I.tuple h
 obtain⟨its',r',⟨o',e',_,n',d'⟩,_⟩:=I.tuple h'
 rw[e]at e';cases e'
 rw[d]at d'
 injection d' with d1 _
 have:its=its':=by simpa using congrArg Array.toList d1
 subst this
 exact r.inj r'
end
abbrev Cx.wish (X:Cx) (E:Value->Shared->Prop):Cx:={X with xe:=E}
abbrev Cx.nox (X:Cx):Cx:=X.wish λ_ _=>False
theorem Cx.Ok.wish {X:Cx} (ok:X.Ok) (E:Value->Shared->Prop):(X.wish E).Ok:=
 ⟨ok.mod,ok.kind,ok.glob,ok.blt,ok.above,ok.inj,ok.has,ok.cab,ok.hd,ok.frames,ok.stk,ok.exf,ok.bs,ok.bsz,ok.noex,ok.exfs,ok.funs,ok.frf⟩
theorem Cx.Ok.unwish {X:Cx} {E:Value->Shared->Prop} (ok:(X.wish E).Ok):X.Ok:=
 ⟨ok.mod,ok.kind,ok.glob,ok.blt,ok.above,ok.inj,ok.has,ok.cab,ok.hd,ok.frames,ok.stk,ok.exf,ok.bs,ok.bsz,ok.noex,ok.exfs,ok.funs,ok.frf⟩
section
variable {X:Cx} {pins:List (Addr×Obj)} {σ:St} {H:Hp} {s:Shared} {E:Value->Shared->Prop}
theorem qx.wish (I:qx X pins σ H s) (E:Value->Shared->Prop):qx (X.wish E) pins σ H s:=⟨I.ok.wish E,I.os,I.bare,I.base,I.loc,I.cell,I.free,I.freeC,I.pin,I.hok,I.len⟩
theorem qx.unwish (I:qx (X.wish E) pins σ H s):qx X pins σ H s:=⟨I.ok.unwish,I.os,I.bare,I.base,I.loc,I.cell,I.free,I.freeC,I.pin,I.hok,I.len⟩
theorem SP.unwish {D:QS} {f:Flow} {s':Shared} (h:SP (X.wish E) pins D f s'):SP X pins D f s':=by
 cases f with
 | next=>obtain⟨σ',H',I,q⟩:=h;exact⟨σ',H',I.unwish,q⟩
 | brk=>obtain⟨σ',H',I,q⟩:=h;exact⟨σ',H',I.unwish,q⟩
 | cont=>obtain⟨σ',H',I,q⟩:=h;exact⟨σ',H',I.unwish,q⟩
 | ret u=>obtain⟨v,σ',H',I,r,q⟩:=h;exact⟨v,σ',H',I.unwish,r,q⟩
theorem ub.nox {st:List Stmt} {t:TS} (h:ub X.nox st t):ub X st t:=λpins s σ H D I hw=>
 wpAny_mono (h pins s σ H D (I.wish _) hw) (λ_ _ q=>q.unwish) λ_ _ z=>False.elim z
end
section
variable {X:Cx} {st:Stmt} {rest:List Stmt} {t u:TS} {e:Expr} {te:TE} {pos:Pos}
def UJ:TS:=λD σ H=>D.nx σ H
def GJ (t u:TS):TS:=λD σ H=>t {D with nx:=u D} σ H
theorem qz:WJ X [] UJ:=.of (by
 exact λ_ _ σ H _ I h=>wpAny_execs_nil ⟨σ,H,I,h⟩)
theorem qe (h1:JS X st t) (h2:WJ X rest u):WJ X (st::rest) (GJ t u):=.of (by
 have h1:=h1.to
 have h2:=h2.to
 intro pins s σ H D I h
 refine wpAny_execs_cons (q5 (h1 pins s σ H {D with nx:=u D} I h) λf s1 q=>?_)
 cases f with
 | next=>
   obtain⟨σ',H',I',q⟩:=q
   exact h2 pins s1 σ' H' D I' q
 | ret v=>exact q
 | brk=>exact q
 | cont=>exact q)
theorem qg (h1:JS X st t):WJ X [st] t:=.of (by
 have h1:=h1.to
 intro pins s σ H D I h
 refine wpAny_execs_cons (q5 (h1 pins s σ H D I h) λf s1 q=>?_)
 cases f with
 | next=>exact wpAny_execs_nil q
 | ret v=>exact q
 | brk=>exact q
 | cont=>exact q)
theorem qx.quiet {pins:List (Addr×Obj)} {σ:St} {H:Hp} {s:Shared} (I:qx X pins σ H s):interactive X.env=false:=by simp [interactive,I.ok.kind]
def NH (te:TE):TS:=λD σ H=>te σ H λ_ H1=>D.nx σ H1
theorem jz (he:JE X e te) (hs:swapsWith e none pos.line X.env=pure false:=by rfl):JS X (.Expr e pos) (NH te):=.of (by
 have he:=he.to
 intro pins s σ H D I h
 exact wpAny_Expr_any (q5 (he pins s σ H _ I h) λv s1 ⟨x,H1,I1,r1,q1⟩=>⟨σ,H1,I1,q1⟩) I.quiet hs)
def MN (te:TE):TS:=λD σ H=>te σ H D.rt
theorem qv (he:JE X e te):JS X (.Return (some e) pos) (MN te):=.of (by
 have he:=he.to
 intro pins s σ H D I h
 exact wpAny_Return_some (q5 (he pins s σ H _ I h) λv s1 ⟨x,H1,I1,r1,q1⟩=>⟨x,σ,H1,I1,r1,q1⟩))
def uq (c:TT) (t u:TS):TS:=λD σ H=>c σ H λb H1=>if b=true then t D σ H1 else u D σ H1
theorem qM {c:Expr} {a b:List Stmt} {tc:TT} (hc:JT X c tc) (ha:WJ X a t) (hb:WJ X b u):JS X (.If c a b pos) (uq tc t u):=.of (by
 have hc:=hc.to
 have ha:=ha.to
 have hb:=hb.to
 intro pins s σ H D I h
 refine wpAny_If (q5 (hc pins s σ H _ I h) λd s1 ⟨H1,I1,q1⟩=>?_)
 cases d with
 | true=>exact ha pins s1 σ H1 D I1 q1
 | false=>exact hb pins s1 σ H1 D I1 q1)
def GK:TS:=λ_ _ _=>False
theorem qY {sts:List Stmt}:WJ X sts GK:=.of (by
 exact λ_ _ _ _ _ _ h=>h.elim)
end
abbrev TG:=V->St->Hp->(St->Hp->Prop)->Prop
abbrev ua:=List V->St->Hp->(St->Hp->Prop)->Prop
def PG (X:Cx) (target:Expr) (t:TG):Prop:=
 ∀(pins:List (Addr×Obj)) (s:Shared) (σ:St) (H:Hp) (v:V) (u:Value) (Q:St->Hp->Prop),qx X pins σ H s->qK v u->t v σ H Q->
   wpAny (model X.prog X.w) X.A (assign target X.env u) (λ_ s'=>∃σ' H',qx X pins σ' H' s'/\Q σ' H') X.xe s
@[irreducible] def JG (X:Cx) (target:Expr) (t:TG):Prop:=PG X target t
theorem JG.of {X:Cx} {target:Expr} {t:TG} (h:PG X target t):JG X target t:=by unfold JG;exact h
theorem JG.to {X:Cx} {target:Expr} {t:TG} (h:JG X target t):PG X target t:=by unfold JG at h;exact h
def PGs (X:Cx) (ts:List Expr) (t:ua):Prop:=
 ∀(pins:List (Addr×Obj)) (s:Shared) (σ:St) (H:Hp) (vs:List V) (us:List Value) (Q:St->Hp->Prop),qx X pins σ H s->qD vs us->t vs σ H Q->
   wpAny (model X.prog X.w) X.A (assignInOrder ((assignEach ts X.env).map (·.2)) us) (λ_ s'=>∃σ' H',qx X pins σ' H' s'/\Q σ' H') X.xe s
@[irreducible] def ue (X:Cx) (ts:List Expr) (t:ua):Prop:=PGs X ts t
theorem ue.of {X:Cx} {ts:List Expr} {t:ua} (h:PGs X ts t):ue X ts t:=by unfold ue;exact h
theorem ue.to {X:Cx} {ts:List Expr} {t:ua} (h:ue X ts t):PGs X ts t:=by unfold ue at h;exact h
abbrev MJ:=V->V->Hp->VK->Prop
def PIp (X:Cx) (op:Operator) (t:MJ):Prop:=
 ∀(pins:List (Addr×Obj)) (s:Shared) (σ:St) (H:Hp) (x y:V) (v u:Value) (Q:VK),qx X pins σ H s->qK x v->qK y u->t x y H Q->
   wpAny (model X.prog X.w) X.A (inplaceOp op v u) (EP X pins σ Q) X.xe s
section
variable {X:Cx} {pos:Pos}
def QP (i:Nat):TG:=λv σ H Q=>Q (σ.set i (some v)) H
theorem qt {i:Nat} {x:Str} (hN:X.N.Nodup) (hi:X.N[i]?=some x) (hx:Np X.env.scope x) (hf:X.fn x=true\/X.env.scope.names.lookup x=some .local:=by first | exact .inl rfl | exact .inr rfl | assumption):JG X (.Name x pos) (QP i):=.of (by
 intro pins s σ H v u Q I r h
 exact wpAny_assign_Name (Zx I hN hi hx r (λs' I'=>⟨_,H,I',h⟩) hf))
def R6:ua:=λvs σ H Q=>vs=[]/\Q σ H
def Vs (t:TG) (u:ua):ua:=λvs σ H Q=>∃v r,vs=v::r/\t v σ H λσ' H'=>u r σ' H' Q
theorem ZL:ue X [] R6:=.of (by
 intro pins s σ H vs us Q I r h
 obtain⟨e,h⟩:=h
 subst e
 cases r
 exact assignInOrder_nil ⟨σ,H,I,h⟩)
theorem jT {e:Expr} {es:List Expr} {t:TG} {u:ua} (h1:JG X e t) (h2:ue X es u) (hs:(assignEach (e::es) X.env).map (·.2)=assign e X.env::(assignEach es X.env).map (·.2):=by rfl):ue X (e::es) (Vs t u):=.of (by
 have h1:=h1.to
 have h2:=h2.to
 intro pins s σ H vs us Q I r h
 obtain⟨v,vr,e1,h⟩:=h
 subst e1
 cases r with
 | cons r rr=>
   rw[hs]
   refine assignInOrder_cons (q5 (h1 pins s σ H _ _ _ I r h) λ_ s1 ⟨σ1,H1,I1,q1⟩=>?_)
   exact h2 pins s1 σ1 H1 _ _ Q I1 rr q1)
def R4 (K:PySem.W.Frag) (n:Nat) (t:ua):TG:=λv σ H Q=>∃a xs,v=.ref a/\SqT K H a xs/\xs.length=n/\t xs σ H Q
theorem YI {es:List Expr} {k:Nat} {t:ua} {n:Nat} (hc:X.calm=true) (h:ue X es t) (hn:(assignEach es X.env).length=n:=by rfl) (hst:(assignEach es X.env).findIdx? (·.1)=none:=by rfl):JG X (.Tuple es k pos) (R4 X.K n t):=.of (by
 have h:=h.to
 intro pins s σ H v u Q I r hw
 obtain⟨a,xs,e1,hq,hl,hw⟩:=hw
 subst e1
 cases r
 obtain⟨its,rv,ht,hz⟩:=I.tuple hq
 refine assign_Tuple_tuple (I.ok.hd hc) ht (by simp [hn,<-hl,rv.length]) hst λh' hx=>?_
 have I1:qx X pins σ H {s with heap:=h'}:=I.kept (t':=s.toks) λb o e=>hx b o (Nat.ne_of_lt (Heap.lt_size e)) e
 exact h pins _ σ H xs _ Q I1 (by simpa using rv) hw)
def ut (te:TE) (g:TG):TS:=λD σ H=>te σ H λx H1=>g x σ H1 D.nx
theorem qw {i:Nat} {x:Str} {e:Expr} {te:TE} {pos':Pos} (hN:X.N.Nodup) (hi:X.N[i]?=some x) (hx:Np X.env.scope x) (he:JE X e te) (hs:swapsWith e (some (.Name x pos')) pos.line X.env=pure false:=by rfl) (hf:X.fn x=true\/X.env.scope.names.lookup x=some .local:=by first | exact .inl rfl | exact .inr rfl | assumption):JS X (.Assign [.Name x pos'] e pos) (ut te (QP i)):=.of (by
 have he:=he.to
 intro pins s σ H D I h
 refine wpAny_Assign_Name (q5 (he pins s σ H _ I h) λv s1 ⟨y,H1,I1,r1,q1⟩=>?_) hs
 exact Zx I1 hN hi hx r1 (λs2 I2=>⟨_,H1,I2,q1⟩) hf)
def MV (i:Nat) (te:TE) (ti:MJ):TS:=λD σ H=>∃x,σ[i]?=some (some x)/\te σ H λy H1=>ti x y H1 λz H2=>D.nx (σ.set i (some z)) H2
theorem x6 {i:Nat} {x:Str} {e:Expr} {te:TE} {op:Operator} {ti:MJ} {pos':Pos} (hN:X.N.Nodup) (hi:X.N[i]?=some x) (hx:Np X.env.scope x) (he:JE X e te) (ho:PIp X op ti) (hf:X.fn x=true\/X.env.scope.names.lookup x=some .local:=by first | exact .inl rfl | exact .inr rfl | assumption):JS X (.AugAssign (.Name x pos') op e pos) (MV i te ti):=.of (by
 have he:=he.to
 intro pins s σ H D I h
 obtain⟨v,e1,h⟩:=h
 obtain⟨m,hn,hl⟩:=I.loc
 have vis:Ni X.env.scope x:=by rcases hx with k | k;exact .inl k;exact .inr (.inl k)
 obtain⟨u,r,l⟩:=hl i x v hi e1 vis
 refine wpAny_AugAssign_Name ?_
 have go:wpAny (model X.prog X.w) X.A (eval e X.env) (λw s₂=>wpAny (model X.prog X.w) X.A (inplaceOp op u w) (λr s₃=>wpAny (model X.prog X.w) X.A (storeName X.env x r) (λ_=>SP X pins D .next) X.xe s₃) X.xe s₂) X.xe s:=by
   refine q5 (he pins s σ H _ I h) λw s1 ⟨y,H1,I1,r1,q1⟩=>?_
   refine q5 (ho pins s1 σ H1 v y u w _ I1 r r1 q1) λz s2 ⟨zv,H2,I2,r2,q2⟩=>?_
   exact Zx I2 hN hi hx r2 (λs3 I3=>⟨_,H2,I3,q2⟩) hf
 rcases l with ⟨hk,hm⟩ | ⟨hk,c,hc,hcell⟩
 . exact wpAny_loadName_local I.ok.kind hk hn hm go
 . rcases hk with hk | hk
   . exact wpAny_loadName_cell I.ok.kind hk hc hcell go
   . rcases hx with k | k
     . have:X.env.scope.names.lookup x=some .free:=hk
       rw[k]at this;cases this
     . have:X.env.scope.names.lookup x=some .free:=hk
       rw[k]at this;cases this)
def ipI (f:Int->Int->Int):MJ:=λx y H Q=>∃i j,x=.int i/\y=.int j/\Q (.int (f i j)) H
theorem wv:PIp X .Add (ipI λi j=>i+j):=by
 intro pins s σ H x y v u Q I r1 r2 h
 obtain⟨i,j,e1,e2,q⟩:=h
 subst e1;subst e2
 obtain⟨t,rfl⟩:=r1
 obtain⟨t',rfl⟩:=r2
 exact iadd_int ⟨.int _,H,I.tok _,⟨_,rfl⟩,q⟩
end
section
variable {X:Cx} {pos:Pos}
def yB (c:TT) (tb:TS):TS:=λD σ H=>∃W:Nat->St->Hp->Prop,(∃m,W m σ H)/\∀m σ H,W m σ H->
 c σ H λb H1=>if b=true then ∃N:St->Hp->Prop,(∀σ' H',N σ' H'->∃m',m' < m/\W m' σ' H')/\tb {D with nx:=N,ct:=N,bk:=D.nx} σ H1 else D.nx σ H1
theorem ZI {c:Expr} {body:List Stmt} {tc:TT} {tb:TS} (hp:PassesOwn (model X.prog X.w) X.A X.env X.xe) (hc:JT X c tc) (hb:WJ X body tb):JS X (.While c body [] pos) (yB tc tb):=.of (by
 have hc:=hc.to
 have hb:=hb.to
 intro pins s σ H D I h
 obtain⟨W,⟨m0,w0⟩,turn⟩:=h
 refine wpAny_While (codeAny_whileLoop (λn s'=>∃σ' H',qx X pins σ' H' s'/\W n σ' H') ?_ m0 ⟨σ,H,I,w0⟩)
 rintro n s1 ⟨σ1,H1,I1,w1⟩
 refine wpAny_passesOwn hp (q5 (hc pins s1 σ1 H1 _ I1 (turn n σ1 H1 w1)) λb s2 ⟨H2,I2,q2⟩=>?_)
 cases b with
 | true=>
   obtain⟨N,hN,q2⟩:=q2
   rw[if_pos rfl]
   refine wpAny_passesOwn hp (q5 (hb pins s2 σ1 H2 _ I2 q2) λf s3 q3=>?_)
   cases f with
   | next=>
     obtain⟨σ3,H3,I3,n3⟩:=q3
     obtain⟨m',hm,w3⟩:=hN σ3 H3 n3
     exact⟨m',hm,σ3,H3,I3,w3⟩
   | cont=>
     obtain⟨σ3,H3,I3,n3⟩:=q3
     obtain⟨m',hm,w3⟩:=hN σ3 H3 n3
     exact⟨m',hm,σ3,H3,I3,w3⟩
   | brk=>exact q3
   | ret v=>exact q3
 | false=>
   rw[if_neg Bool.false_ne_true]
   exact wpAny_execs_nil ⟨σ1,H2,I2,q2⟩)
end
structure It where
 go:Nat->Hp->Prop
 yld:Nat->Hp->V->Hp->Prop
 stop:Nat->Hp->Prop
def Zt (X:Cx) (pins:List (Addr×Obj)) (H:Hp) (b:Addr):Prop:=
 H b=none/\b≠X.env.locals/\b∉X.fs/\(b∈X.ex\/X.s₀.heap.objs.size<=b)/\(∀x c,X.env.cells.lookup x=some c->c≠b)/\∀p∈X.pn++pins,p.1≠b
theorem qx.fpOk {X:Cx} {pins:List (Addr×Obj)} {σ:St} {H H':Hp} {s:Shared} {b:Addr} (I:qx X pins σ H s) (hb:s.heap.objs.size<=b) (hn:H' b=none):Zt X pins H' b:=by
 refine⟨hn,Nat.ne_of_gt (Nat.lt_of_lt_of_le I.lt hb),I.nofs hb,.inr (Nat.le_trans I.sz hb),λx c e z=>?_,λp hp z=>?_⟩
 . obtain⟨v,q⟩:=I.cell x c e
   exact absurd (Nat.lt_of_lt_of_le q.lt (by rw[z];exact hb)) (Nat.lt_irrefl _)
 . exact absurd (Nat.lt_of_lt_of_le (Heap.lt_size (I.pin p hp).1) (by rw[z];exact hb)) (Nat.lt_irrefl _)
structure VD (P:Program) (w:World) (K:PySem.W.Frag) (tg:Expr) (J:It) (fp:List Addr) (it:Addr) (tn:Nat->Heap->Prop):Prop where
 mem:it∈fp
 obj:∀i h,tn i h->∀b∈fp,∃o,h.get? b=some o/\∀v,o.data≠.cell v
 keep:∀i h h',tn i h->(∀b∈fp,∀o,h.get? b=some o->h'.get? b=some o)->tn i h'
 item:∀(X:Cx),X.prog=P->X.w=w->X.K=K->X.calm=true->∀(i:Nat) (pins:List (Addr×Obj)) (s:Shared) (σ:St) (H:Hp) (E:Value->Shared->Prop),qx X pins σ H s->(∀b∈fp,Zt X pins H b)->tn i s.heap->J.go i H->
   wpAny (model P w) X.A (pyNext (.ref it)) (λr s1=>∃u,r=some u/\
     wpAny (model P w) X.A (letOwnedTupleGo tg (.ref it) u) (λ_ s2=>∃x H',qx X pins σ H' s2/\qK x u/\J.yld i H x H'/\tn (i+1) s2.heap/\∀b∈fp,H' b=none) E s1) E s
 done:∀(X:Cx),X.prog=P->X.w=w->X.K=K->X.calm=true->∀(i:Nat) (pins:List (Addr×Obj)) (s:Shared) (σ:St) (H:Hp) (E:Value->Shared->Prop),qx X pins σ H s->(∀b∈fp,Zt X pins H b)->tn i s.heap->J.stop i H->
   wpAny (model P w) X.A (pyNext (.ref it)) (λr s1=>r=none/\qx X pins σ H s1) E s
 self:∀(A:Around) (i:Nat) (s:Shared) (Q:Value->Shared->Prop) (E:Value->Shared->Prop),tn i s.heap->Q (.ref it) s->wpAny (model P w) A (pyIter (.ref it)) Q E s
abbrev TI:=St->Hp->(It->Hp->Prop)->Prop
def PIE (X:Cx) (pins:List (Addr×Obj)) (σ:St) (tg:Expr) (R:It->Hp->Prop) (itv:Value) (s2:Shared):Prop:=
 ∃(it:Addr) (fp:List Addr) (tn:Nat->Heap->Prop) (J:It) (H':Hp),itv=.ref it/\qx X pins σ H' s2/\VD X.prog X.w X.K tg J fp it tn/\tn 0 s2.heap/\(∀b∈fp,Zt X pins H' b)/\R J H'
def PI (X:Cx) (tg iter:Expr) (wi:TI):Prop:=
 ∀(pins:List (Addr×Obj)) (s:Shared) (σ:St) (H:Hp) (R:It->Hp->Prop),qx X pins σ H s->wi σ H R->
   wpAny (model X.prog X.w) X.A (eval iter X.env) (λv s1=>wpAny (model X.prog X.w) X.A (pyIter v) (PIE X pins σ tg R) X.xe s1) X.xe s
@[irreducible] def JI (X:Cx) (tg iter:Expr) (wi:TI):Prop:=PI X tg iter wi
theorem JI.of {X:Cx} {tg iter:Expr} {wi:TI} (h:PI X tg iter wi):JI X tg iter wi:=by unfold JI;exact h
theorem JI.to {X:Cx} {tg iter:Expr} {wi:TI} (h:JI X tg iter wi):PI X tg iter wi:=by unfold JI at h;exact h
theorem Vp {M:Model} {A:Around} {E:Value->Shared->Prop} {s:Shared} {tg:Expr} {it:Addr} {u:Value} {o:Obj} {n:String} {vs:Array Value} {Q:Unit->Shared->Prop} (ho:s.heap.get? it=some o) (hc:o.cls=.type n) (hd:o.data=.fields vs)
   (hn:["enumerate","zip","dict_itemiterator","dict_reverseitemiterator","odict_iterator","itertools.zip_longest","itertools.pairwise"].contains n=false) (hQ:Q () s):wpAny M A (letOwnedTupleGo tg (.ref it) u) Q E s:=by
 unfold letOwnedTupleGo
 cases tg<;>first
   | exact wpAny_pure hQ
   | (cases u<;>first
       | exact wpAny_pure hQ
       | (refine wpAny_bind (wpAny_load ho ?_)
          rw[hc,hd]
          show wpAny M A (if (["enumerate","zip","dict_itemiterator","dict_reverseitemiterator","odict_iterator","itertools.zip_longest","itertools.pairwise"].contains n&&vs[0]?==some (rawInt _))=true then _ else _) Q E s
          rw[if_neg (by intro h;rw[hn,Bool.false_and]at h;cases h)]
          exact wpAny_pure hQ))
def Nr (K:PySem.W.Frag) (a:Addr):It:=
 ⟨λi H=>∃xs x,SqL K H a xs/\xs[i]?=some x,λi H x H'=>H'=H/\∀xs,SqL K H a xs->xs[i]?=some x,λi H=>∃xs,SqL K H a xs/\xs.length<=i⟩
def Gz (K:PySem.W.Frag) (a:Addr):It:=
 ⟨λi H=>∃xs x,SqT K H a xs/\xs[i]?=some x,λi H x H'=>H'=H/\∀xs,SqT K H a xs->xs[i]?=some x,λi H=>∃xs,SqT K H a xs/\xs.length<=i⟩
def GC (lo:Int) (n:Nat):It:=⟨λi _=>i < n,λi H x H'=>H'=H/\x=.int (lo+i),λi _=>n<=i⟩
theorem vX {P:Program} {w:World} {K:PySem.W.Frag} {tg:Expr} (a it:Addr):VD P w K tg (Nr K a) [it] it (λi h=>h.IsListIter it a i) where
 mem:=by simp
 obj:=λi h st b hb=>by
   have e:b=it:=by simpa using hb
   subst e
   obtain⟨o,e,c,d⟩:=st
   exact⟨o,e,λv z=>by rw[d]at z;cases z⟩
 keep:=λi h h' st k=>st.at λo e=>k it (by simp) o e
 item:=by
   intro X hP hw hK hc i pins s σ H E I hf st hg
   subst hP hw hK
   obtain⟨xs,x,hq,hx⟩:=hg
   obtain⟨its,rv,p,hz⟩:=I.list hq
   obtain⟨u,hu,ru⟩:=rv.get hx
   obtain⟨f0,f1,f2,f3,f4,f5⟩:=hf it (by simp)
   refine wpAny_pyNext_list_item st p.isList (x:=u) (by simpa using hu) λh' st' sb=>?_
   have I1:qx X pins σ H {s with heap:=h'}:=I.turned (t':=s.toks) (λb o hb e=>(sb.2 b hb).trans e) f0 f1 f3 f4 f5
   obtain⟨o,e,c,d⟩:=id st'
   exact⟨u,rfl,Vp (s:={s with heap:=h'}) e c d (by decide) ⟨x,H,I1,ru,⟨rfl,λys hy=>by rw[I.list_inj hy hq];exact hx⟩,st',λb hb=>(hf b hb).1⟩⟩
 done:=by
   intro X hP hw hK hc i pins s σ H E I hf st hg
   subst hP hw hK
   obtain⟨xs,hq,hx⟩:=hg
   obtain⟨its,rv,p,hz⟩:=I.list hq
   obtain⟨f0,f1,f2,f3,f4,f5⟩:=hf it (by simp)
   have hl:=rv.length
   exact wpAny_pyNext_list_end (I.ok.hd hc) st p.isList (by simp;omega) λh' eb=>⟨rfl,I.turned (t':=s.toks) (λb o hb e=>eb b o hb e) f0 f1 f3 f4 f5⟩
 self:=λ_ _ _ _ _ st h=>wpAny_pyIter_listiter st h
theorem VI {P:Program} {w:World} {K:PySem.W.Frag} {tg:Expr} (a it:Addr):VD P w K tg (Gz K a) [it] it (λi h=>h.IsTupleIter it a i) where
 mem:=by simp
 obj:=λi h st b hb=>by
   have e:b=it:=by simpa using hb
   subst e
   obtain⟨o,e,c,d⟩:=st
   exact⟨o,e,λv z=>by rw[d]at z;cases z⟩
 keep:=λi h h' st k=>st.at λo e=>k it (by simp) o e
 item:=by
   intro X hP hw hK hc i pins s σ H E I hf st hg
   subst hP hw hK
   obtain⟨xs,x,hq,hx⟩:=hg
   obtain⟨its,rv,p,hz⟩:=I.tuple hq
   obtain⟨u,hu,ru⟩:=rv.get hx
   obtain⟨f0,f1,f2,f3,f4,f5⟩:=hf it (by simp)
   refine wpAny_pyNext_tuple_item st (show s.heap.IsTuple a its.toArray from p) (x:=u) (by simpa using hu) λh' st' sb=>?_
   have I1:qx X pins σ H {s with heap:=h'}:=I.turned (t':=s.toks) (λb o hb e=>(sb.2 b hb).trans e) f0 f1 f3 f4 f5
   obtain⟨o,e,c,d⟩:=id st'
   exact⟨u,rfl,Vp (s:={s with heap:=h'}) e c d (by decide) ⟨x,H,I1,ru,⟨rfl,λys hy=>by rw[I.tuple_inj hy hq];exact hx⟩,st',λb hb=>(hf b hb).1⟩⟩
 done:=by
   intro X hP hw hK hc i pins s σ H E I hf st hg
   subst hP hw hK
   obtain⟨xs,hq,hx⟩:=hg
   obtain⟨its,rv,p,hz⟩:=I.tuple hq
   obtain⟨f0,f1,f2,f3,f4,f5⟩:=hf it (by simp)
   have hl:=rv.length
   exact wpAny_pyNext_tuple_end (I.ok.hd hc) st (show s.heap.IsTuple a its.toArray from p) (by simp;omega) λh' eb=>⟨rfl,I.turned (t':=s.toks) (λb o hb e=>eb b o hb e) f0 f1 f3 f4 f5⟩
 self:=λ_ _ _ _ _ st h=>wpAny_pyIter_tupleiter st h
theorem VJ {P:Program} {w:World} {K:PySem.W.Frag} {tg:Expr} (it:Addr) (lo:Int) (n:Nat):VD P w K tg (GC lo n) [it] it (λi h=>IsRangeIter h it (lo+(i:Nat)*1) ((n:Int) - (i:Nat)) 1) where
 mem:=by simp
 obj:=λi h st b hb=>by
   have e:b=it:=by simpa using hb
   subst e
   exact⟨_,st,λv z=>by
     have z':Data.fields _=Data.cell v:=z
     cases z'⟩
 keep:=λi h h' st k=>k it (by simp) _ st
 item:=by
   intro X hP hw hK hc i pins s σ H E I hf st hg
   subst hP hw hK
   obtain⟨f0,f1,f2,f3,f4,f5⟩:=hf it (by simp)
   have W:=Walks.range (prog:=X.prog) (w:=X.w) (I.ok.hd hc) it lo 1 n
   refine W.item i s _ _ hg st λv h' tk hv st' kk=>?_
   obtain⟨t,rfl⟩:=hv
   have I1:qx X pins σ H {s with heap:=h',toks:=tk}:=I.turned (λb o hb e=>kk b o (by simpa using hb) e) f0 f1 f3 f4 f5
   refine⟨_,rfl,Vp (s:={s with heap:=h',toks:=tk}) (n:="range_iterator") st' rfl rfl (by decide) ⟨.int (lo+i),H,I1,⟨t,?_⟩,⟨rfl,rfl⟩,st',λb hb=>(hf b hb).1⟩⟩
   rw[Int.mul_one]
 done:=by
   intro X hP hw hK hc i pins s σ H E I hf st hg
   subst hP hw hK
   obtain⟨f0,f1,f2,f3,f4,f5⟩:=hf it (by simp)
   exact wpAny_pyNext_range_end (I.ok.hd hc) st (by have:n<=i:=hg;omega) λh' eb=>⟨rfl,I.turned (t':=s.toks) (λb o hb e=>eb b o hb e) f0 f1 f3 f4 f5⟩
 self:=λ_ _ _ _ _ st h=>wpAny_pyIter_rangeiter st h
end L2
namespace L2
open PySem PySem.Spec PyProof.Rows
section
variable {X:Cx} {tg:Expr}
def Ml (K:PySem.W.Frag) (tl:TE):TI:=λσ H R=>tl σ H λx H1=>∃a,x=.ref a/\(∃xs,SqL K H1 a xs)/\R (Nr K a) H1
def qas (K:PySem.W.Frag) (tl:TE):TI:=λσ H R=>tl σ H λx H1=>∃a,x=.ref a/\(∃xs,SqT K H1 a xs)/\R (Gz K a) H1
theorem qH {l:Expr} {tl:TE} (hl:JE X l tl):JI X tg l (Ml X.K tl):=.of (by
 have hl:=hl.to
 intro pins s σ H R I h
 refine q5 (hl pins s σ H _ I h) λv s1 ⟨x,H1,I1,r1,q1⟩=>?_
 obtain⟨a,e,⟨xs,hq⟩,q⟩:=q1
 subst e
 cases r1
 obtain⟨its,rv,p,hz⟩:=I1.list hq
 refine wpAny_pyIter_list p.isList ?_
 refine⟨s1.heap.objs.size,[s1.heap.objs.size],_,_,H1,rfl,I1.kept (t':=s1.toks) λb o e=>Heap.get?_push_of_some _ e,vX a _,⟨_,Heap.get?_push_size _ rfl,rfl,rfl⟩,λb hb=>?_,q⟩
 have e:b=s1.heap.objs.size:=by simpa using hb
 subst e
 exact I1.fpOk (Nat.le_refl _) (I1.hok.fresh (Nat.le_refl _)))
theorem Z8 {l:Expr} {tl:TE} (hl:JE X l tl):JI X tg l (qas X.K tl):=.of (by
 have hl:=hl.to
 intro pins s σ H R I h
 refine q5 (hl pins s σ H _ I h) λv s1 ⟨x,H1,I1,r1,q1⟩=>?_
 obtain⟨a,e,⟨xs,hq⟩,q⟩:=q1
 subst e
 cases r1
 obtain⟨its,rv,p,hz⟩:=I1.tuple hq
 refine wpAny_pyIter_tuple (show s1.heap.IsTuple a its.toArray from p) ?_
 refine⟨s1.heap.objs.size,[s1.heap.objs.size],_,_,H1,rfl,I1.kept (t':=s1.toks) λb o e=>Heap.get?_push_of_some _ e,VI a _,⟨_,Heap.get?_push_size _ rfl,rfl,rfl⟩,λb hb=>?_,q⟩
 have e:b=s1.heap.objs.size:=by simpa using hb
 subst e
 exact I1.fpOk (Nat.le_refl _) (I1.hok.fresh (Nat.le_refl _)))
theorem y9 {pins:List (Addr×Obj)} {σ:St} {H:Hp} {s:Shared} {R:It->Hp->Prop} {E:Value->Shared->Prop} {lo hi:Int} {t u v:Tok} {tk:Nat} (I:qx X pins σ H s) (h1:-(2^62)<=lo) (h2:lo < 2^62) (h3:-(2^62)<=hi) (h4:hi < 2^62)
   (q:R (GC lo (hi - lo).toNat) H):wpAny (model X.prog X.w) X.A (pyIter (.ref s.heap.objs.size)) (PIE X pins σ tg R) E {s with heap:=s.heap.push {cls:=.type "range",data:=.fields #[.int lo t,.int hi u,.int 1 v]},toks:=tk}:=by
 refine wpAny_pyIter_range (IsRange.new ..) (small_one h1 h2 h3 h4) ?_
 have I1:qx X pins σ H {s with heap:=s.heap.push {cls:=.type "range",data:=.fields #[.int lo t,.int hi u,.int 1 v]},toks:=tk}:=I.kept λb o e=>Heap.get?_push_of_some _ e
 refine⟨(s.heap.push {cls:=.type "range",data:=.fields #[.int lo t,.int hi u,.int 1 v]}).objs.size,[(s.heap.push {cls:=.type "range",data:=.fields #[.int lo t,.int hi u,.int 1 v]}).objs.size],_,_,H,rfl,
   I1.kept (t':=tk) λb o e=>Heap.get?_push_of_some _ e,VJ _ lo (hi - lo).toNat,?_,λb hb=>?_,q⟩
 . have e1:lo+((0:Nat):Int)*1=lo:=by simp
   have e2:(((hi - lo).toNat:Nat):Int) - ((0:Nat):Int)=Builtin.Range.rangeSize lo hi 1:=by rw[rangeSize_one];split<;>omega
   show IsRangeIter _ _ (lo+((0:Nat):Int)*1) ((((hi - lo).toNat:Nat):Int) - ((0:Nat):Int)) 1
   rw[e1,e2]
   exact Heap.get?_push_size _ rfl
 . have e:b=(s.heap.push {cls:=.type "range",data:=.fields #[.int lo t,.int hi u,.int 1 v]}).objs.size:=by simpa using hb
   subst e
   exact I1.fpOk (Nat.le_refl _) (I1.hok.fresh (Nat.le_refl _))
def Mj (ta:TA):TI:=λσ H R=>ta σ H λvs H1=>∃j:Int,vs=[.int j]/\-(2^62)<=j/\j < 2^62/\R (GC 0 j.toNat) H1
theorem jp {a:Expr} {ta:TA} {p pos:Pos} (hg:Gl X "range") (hm:X.mg "range"=none) (ha:JA X [a] ta) (hs:starEach [a] X.env=[(false,eval a X.env)]:=by rfl):JI X tg (.Call (.Name "range" p) [a] [] pos) (Mj ta):=.of (by
 have ha:=ha.to
 intro pins s σ H R I h
 refine Call_ (Q4 I hg hm boot_range (PyProof.Rows.callWith_type1 (q5 (ha pos pins s σ H _ I h) λus s1 ⟨vs,H1,I1,r1,q1⟩=>?_) hs rfl))
 obtain⟨j,e,q1,q2,q⟩:=q1
 subst e
 cases r1 with
 | cons r rr=>
   cases rr
   obtain⟨t,rfl⟩:=r
   exact call_range_1 (y9 I1 (by omega) (by omega) q1 q2 (by simpa using q)))
def MR (wi:TI) (g:TG) (tb:TS):TS:=λD σ H=>wi σ H λJ H1=>∃W:Nat->Nat->St->Hp->Prop,(∃m,W 0 m σ H1)/\∀i m σ H,W i m σ H->
 (J.stop i H/\D.nx σ H)\/(J.go i H/\∃N:St->Hp->Prop,(∀σ' H',N σ' H'->∃m',m' < m/\W (i+1) m' σ' H')/\∀x H',J.yld i H x H'->g x σ H' λσ2 H2=>tb {D with nx:=N,ct:=N,bk:=D.nx} σ2 H2)
def Yv (fp:List Addr) (h:Heap):List (Addr×Obj):=fp.filterMap λb=>(h.get? b).map λo=>(b,o)
theorem Jo {fp:List Addr} {h:Heap} {b:Addr} {o:Obj} (hb:b∈fp) (e:h.get? b=some o):(b,o)∈Yv fp h:=List.mem_filterMap.mpr ⟨b,hb,by rw[e];rfl⟩
theorem kO {fp:List Addr} {h:Heap} {p:Addr×Obj} (hp:p∈Yv fp h):p.1∈fp/\h.get? p.1=some p.2:=by
 obtain⟨b,hb,e⟩:=List.mem_filterMap.mp hp
 cases q:h.get? b with
 | none=>rw[q]at e;cases e
 | some o=>
   rw[q]at e
   have e':(b,o)=p:=Option.some.inj e
   subst e'
   exact⟨hb,q⟩
theorem qx.pinned {pins:List (Addr×Obj)} {σ:St} {H:Hp} {s:Shared} {fp:List Addr} (I:qx X pins σ H s) (hf:∀b∈fp,Zt X pins H b) (ho:∀b∈fp,∃o,s.heap.get? b=some o/\∀v,o.data≠.cell v):qx X (pins++Yv fp s.heap) σ H s:=
 I.pins_of λp hp=>(List.mem_append.mp hp).elim (λz=>I.pin p (List.mem_append_right _ z)) λz=>by
   obtain⟨hb,e⟩:=kO z
   obtain⟨f0,f1,f2,_⟩:=hf p.1 hb
   obtain⟨o,e',d⟩:=ho p.1 hb
   rw[e]at e';cases e'
   exact⟨e,f0,f1,f2,d⟩
theorem qx.unpinned {pins pl:List (Addr×Obj)} {σ:St} {H:Hp} {s:Shared} (I:qx X (pins++pl) σ H s):qx X pins σ H s:=I.pins_of λp hp=>I.pin p (List.mem_append_right _ (List.mem_append_left _ hp))
theorem jc {iter:Expr} {body:List Stmt} {wi:TI} {g:TG} {tb:TS} {pos:Pos} (hp:PassesOwn (model X.prog X.w) X.A X.env X.xe) (hc:X.calm=true) (hi:JI X tg iter wi) (hg:JG X tg g) (hb:WJ X body tb) (hs:∀x,foldedSetIterable iter X.env x=pure x:=by intro _;rfl):JS X (.For tg iter body [] pos) (MR wi g tb):=.of (by
 have hi:=hi.to
 have hg:=hg.to
 have hb:=hb.to
 intro pins s σ H D I h
 refine wpAny_For (q5 (hi pins s σ H _ I h) λv s1 h1=>q5 h1 λitv s2 h2=>?_) hs
 obtain⟨it,fp,tn,J,H2,e,I2,T,st2,f2,W,⟨m0,w0⟩,turn⟩:=h2
 subst e
 have stat:∀{H':Hp},(∀b∈fp,H' b=none)->∀b∈fp,Zt X pins H' b:=λhn b hb=>⟨hn b hb,(f2 b hb).2⟩
 refine codeAny_forLoop_any (λn s'=>∃i σ' H',qx X pins σ' H' s'/\tn i s'.heap/\(∀b∈fp,H' b=none)/\W i n σ' H') ?_ m0 ⟨0,σ,H2,I2,st2,λb hb=>(f2 b hb).1,w0⟩
 rintro n s3 ⟨i,σ3,H3,I3,st3,fr3,w3⟩
 rcases turn i n σ3 H3 w3 with ⟨stop,qn⟩ | ⟨go,N,hN,step⟩
 . refine wpAny_passesOwn hp (q5 (T.done X rfl rfl rfl hc i pins s3 σ3 H3 X.xe I3 (stat fr3) st3 stop) λr s4 ⟨hr,I4⟩=>?_)
   subst hr
   exact wpAny_execs_nil ⟨σ3,H3,I4,qn⟩
 . refine wpAny_passesOwn hp (q5 (T.item X rfl rfl rfl hc i pins s3 σ3 H3 X.xe I3 (stat fr3) st3 go) λr s4 ⟨u,hr,h4⟩=>?_)
   subst hr
   refine wpAny_passesOwn hp (q5 h4 λ_ s5 ⟨x,H5,I5,r5,y5,st5,fr5⟩=>?_)
   have I5':=I5.pinned (stat fr5) (T.obj _ _ st5)
   refine wpAny_passesOwn hp (q5 (hg _ s5 σ3 H5 x u _ I5' r5 (step x H5 y5)) λ_ s6 ⟨σ6,H6,I6,q6⟩=>?_)
   refine wpAny_passesOwn hp (q5 (hb _ s6 σ6 H6 _ I6 q6) λf s7 q7=>?_)
   have again:∀{σ7:St} {H7:Hp},qx X (pins++Yv fp s5.heap) σ7 H7 s7->N σ7 H7->∃m,m < n/\∃i σ' H',qx X pins σ' H' s7/\tn i s7.heap/\(∀b∈fp,H' b=none)/\W i m σ' H':=λ{σ7 H7} I7 n7=>by
     obtain⟨m',hm,w7⟩:=hN σ7 H7 n7
     refine⟨m',hm,i+1,σ7,H7,I7.unpinned,T.keep _ _ _ st5 λb hb o e=>(I7.pin (b,o) (List.mem_append_right _ (List.mem_append_right _ (Jo hb e)))).1,λb hb=>?_,w7⟩
     obtain⟨o,e,d⟩:=T.obj _ _ st5 b hb
     exact(I7.pin (b,o) (List.mem_append_right _ (List.mem_append_right _ (Jo hb e)))).2.1
   cases f with
   | next=>obtain⟨σ7,H7,I7,n7⟩:=q7;exact again I7 n7
   | cont=>obtain⟨σ7,H7,I7,n7⟩:=q7;exact again I7 n7
   | brk=>obtain⟨σ7,H7,I7,q7⟩:=q7;exact⟨σ7,H7,I7.unpinned,q7⟩
   | ret v=>obtain⟨x7,σ7,H7,I7,r7,q7⟩:=q7;exact⟨x7,σ7,H7,I7.unpinned,r7,q7⟩)
end
theorem jm {K:PySem.W.Frag} {a:Addr} {xs:List V} {g:TG} {tb:TS} {D:QS} {σ:St} {H:Hp} (Pv:Nat->St->Hp->Prop) (h0:Pv 0 σ H) (hl:∀i σ H,i<=xs.length->Pv i σ H->SqL K H a xs)
   (hs:∀i x σ H,xs[i]?=some x->Pv i σ H->g x σ H λσ2 H2=>tb {D with nx:=Pv (i+1),ct:=Pv (i+1),bk:=D.nx} σ2 H2) (hd:∀σ H,Pv xs.length σ H->D.nx σ H):
   ∃W:Nat->Nat->St->Hp->Prop,(∃m,W 0 m σ H)/\∀i m σ H,W i m σ H->
    ((Nr K a).stop i H/\D.nx σ H)\/((Nr K a).go i H/\∃N:St->Hp->Prop,(∀σ' H',N σ' H'->∃m',m' < m/\W (i+1) m' σ' H')/\∀x H',(Nr K a).yld i H x H'->g x σ H' λσ2 H2=>tb {D with nx:=N,ct:=N,bk:=D.nx} σ2 H2):=by
 refine⟨λi m σ H=>m=xs.length - i/\i<=xs.length/\Pv i σ H,⟨xs.length,by simp,Nat.zero_le _,h0⟩,?_⟩
 rintro i m σ H ⟨rfl,hi,p⟩
 have q:=hl i σ H hi p
 by_cases hlt:i < xs.length
 . refine .inr ⟨⟨xs,xs[i],q,by simp [hlt]⟩,Pv (i+1),λσ' H' p'=>⟨xs.length - (i+1),by omega,rfl,hlt,p'⟩,λx H' y=>?_⟩
   obtain⟨e,y⟩:=y
   subst e
   exact hs i x σ _ (y xs q) p
 . have e:i=xs.length:=by omega
   subst e
   exact .inl ⟨⟨xs,q,Nat.le_refl _⟩,hd σ H p⟩
theorem vB {K:PySem.W.Frag} {a:Addr} {xs:List V} {g:TG} {tb:TS} {D:QS} {σ:St} {H:Hp} (Pv:Nat->St->Hp->Prop) (h0:Pv 0 σ H) (hl:∀i σ H,i<=xs.length->Pv i σ H->SqT K H a xs)
   (hs:∀i x σ H,xs[i]?=some x->Pv i σ H->g x σ H λσ2 H2=>tb {D with nx:=Pv (i+1),ct:=Pv (i+1),bk:=D.nx} σ2 H2) (hd:∀σ H,Pv xs.length σ H->D.nx σ H):
   ∃W:Nat->Nat->St->Hp->Prop,(∃m,W 0 m σ H)/\∀i m σ H,W i m σ H->
    ((Gz K a).stop i H/\D.nx σ H)\/((Gz K a).go i H/\∃N:St->Hp->Prop,(∀σ' H',N σ' H'->∃m',m' < m/\W (i+1) m' σ' H')/\∀x H',(Gz K a).yld i H x H'->g x σ H' λσ2 H2=>tb {D with nx:=N,ct:=N,bk:=D.nx} σ2 H2):=by
 refine⟨λi m σ H=>m=xs.length - i/\i<=xs.length/\Pv i σ H,⟨xs.length,by simp,Nat.zero_le _,h0⟩,?_⟩
 rintro i m σ H ⟨rfl,hi,p⟩
 have q:=hl i σ H hi p
 by_cases hlt:i < xs.length
 . refine .inr ⟨⟨xs,xs[i],q,by simp [hlt]⟩,Pv (i+1),λσ' H' p'=>⟨xs.length - (i+1),by omega,rfl,hlt,p'⟩,λx H' y=>?_⟩
   obtain⟨e,y⟩:=y
   subst e
   exact hs i x σ _ (y xs q) p
 . have e:i=xs.length:=by omega
   subst e
   exact .inl ⟨⟨xs,q,Nat.le_refl _⟩,hd σ H p⟩
theorem QI {lo:Int} {n:Nat} {g:TG} {tb:TS} {D:QS} {σ:St} {H:Hp} (Pv:Nat->St->Hp->Prop) (h0:Pv 0 σ H)
   (hs:∀i σ H,i < n->Pv i σ H->g (.int (lo+i)) σ H λσ2 H2=>tb {D with nx:=Pv (i+1),ct:=Pv (i+1),bk:=D.nx} σ2 H2) (hd:∀σ H,Pv n σ H->D.nx σ H):
   ∃W:Nat->Nat->St->Hp->Prop,(∃m,W 0 m σ H)/\∀i m σ H,W i m σ H->
    ((GC lo n).stop i H/\D.nx σ H)\/((GC lo n).go i H/\∃N:St->Hp->Prop,(∀σ' H',N σ' H'->∃m',m' < m/\W (i+1) m' σ' H')/\∀x H',(GC lo n).yld i H x H'->g x σ H' λσ2 H2=>tb {D with nx:=N,ct:=N,bk:=D.nx} σ2 H2):=by
 refine⟨λi m σ H=>m=n - i/\i<=n/\Pv i σ H,⟨n,by simp,Nat.zero_le _,h0⟩,?_⟩
 rintro i m σ H ⟨rfl,hi,p⟩
 by_cases hlt:i < n
 . refine .inr ⟨hlt,Pv (i+1),λσ' H' p'=>⟨n - (i+1),by omega,rfl,hlt,p'⟩,λx H' y=>?_⟩
   obtain⟨e,y⟩:=y
   subst e y
   exact hs i σ _ hlt p
 . have e:i=n:=by omega
   subst e
   exact .inl ⟨Nat.le_refl _,hd σ H p⟩
theorem Zv {c:TT} {tb:TS} {D:QS} {σ:St} {H:Hp} (Pv:St->Hp->Prop) (μ:St->Hp->Nat) (h0:Pv σ H)
   (hs:∀σ H,Pv σ H->c σ H λb H1=>if b=true then tb {D with nx:=λσ' H'=>Pv σ' H'/\μ σ' H' < μ σ H,ct:=λσ' H'=>Pv σ' H'/\μ σ' H' < μ σ H,bk:=D.nx} σ H1 else D.nx σ H1)
   (mono:∀σ H Q Q',(∀b H1,Q b H1->Q' b H1)->c σ H Q->c σ H Q'):yB c tb D σ H:=by
 refine⟨λm σ H=>m=μ σ H/\Pv σ H,⟨_,rfl,h0⟩,?_⟩
 rintro m σ H ⟨rfl,p⟩
 refine mono σ H _ _ (λb H1 q=>?_) (hs σ H p)
 cases b with
 | true=>exact⟨_,λσ' H' ⟨p',l⟩=>⟨_,l,rfl,p'⟩,q⟩
 | false=>exact q
end L2
namespace L2
open PySem PySem.Spec PyProof.Rows
abbrev R2:=V->V->Hp->VK->Prop
def J0 (X:Cx) (f:Value->Value->Sem Value) (r:R2):Prop:=
 ∀(pins:List (Addr×Obj)) (s:Shared) (σ:St) (H:Hp) (x y:V) (v u:Value) (Q:VK),qx X pins σ H s->qK x v->qK y u->r x y H Q->
   wpAny (model X.prog X.w) X.A (f v u) (EP X pins σ Q) X.xe s
def Qs (X:Cx) (f:Value) (r:List V->Hp->VK->Prop):Prop:=
 ∀(pins:List (Addr×Obj)) (s:Shared) (σ:St) (H:Hp) (xs:List V) (us:List Value) (Q:VK),qx X pins σ H s->qD xs us->r xs H Q->
   wpAny (model X.prog X.w) X.A (call f us) (EP X pins σ Q) X.xe s
def zH (r:R2) (ta tb:TE):TE:=λσ H Q=>ta σ H λx H1=>tb σ H1 λy H2=>r x y H2 Q
def rI (C:Int->Int->Prop) (g:Int->Int->V):R2:=λx y H Q=>∃i j,x=.int i/\y=.int j/\C i j/\Q (g i j) H
def kB (g:Int->Int->V):R2:=λx y H Q=>∃i j,x=.int i/\y=.int j/\Q (g i j) H
section
variable {X:Cx} {a b c:Expr} {ta tb tc:TE} {pos:Pos}
theorem Nf (ha:PE X a ta) (hb:PE X b tb) {pins:List (Addr×Obj)} {s:Shared} {σ:St} {H:Hp} {R:V->V->Hp->Prop} (I:qx X pins σ H s)
   (h:ta σ H λx H1=>tb σ H1 λy H2=>R x y H2) {Q:Value->Shared->Prop} {f:Value->Value->Sem Value}
   (hf:∀v u s2 x y H2,qx X pins σ H2 s2->qK x v->qK y u->R x y H2->wpAny (model X.prog X.w) X.A (f v u) Q X.xe s2):
   wpAny (model X.prog X.w) X.A (eval a X.env) (λv s₁=>wpAny (model X.prog X.w) X.A (eval b X.env) (λu s₂=>wpAny (model X.prog X.w) X.A (f v u) Q X.xe s₂) X.xe s₁) X.xe s:=by
 refine q5 (ha pins s σ H _ I h) λv s1 ⟨x,H1,I1,r1,q1⟩=>?_
 refine q5 (hb pins s1 σ H1 _ I1 q1) λu s2 ⟨y,H2,I2,r2,q2⟩=>?_
 exact hf v u s2 x y H2 I2 r1 r2 q2
theorem qN {op:Operator} {r:R2} (ho:J0 X (binaryOp op) r) (ha:JE X a ta) (hb:JE X b tb):JE X (.BinOp a op b pos) (zH r ta tb):=.of (by
 have ha:=ha.to
 have hb:=hb.to
 intro pins s σ H Q I h
 exact wpAny_BinOp (Nf ha hb I h λv u s2 x y H2 I2 rx ry q=>ho pins s2 σ H2 x y v u Q I2 rx ry q))
theorem Rw {f:Value->Value->Sem Value} {C:Int->Int->Prop} {g:Int->Int->Int}
   (rule:∀(i j:Int) (t u:Tok) (s:Shared) (Q:Value->Shared->Prop) (E:Value->Shared->Prop),C i j->Q (.int (g i j) s.toks) {s with toks:=s.toks+1}->wpAny (model X.prog X.w) X.A (f (.int i t) (.int j u)) Q E s):
   J0 X f (rI C λi j=>.int (g i j)):=by
 intro pins s σ H x y v u Q I rx ry h
 obtain⟨i,j,rfl,rfl,hc,q⟩:=h
 obtain⟨t,rfl⟩:=rx
 obtain⟨t',rfl⟩:=ry
 exact rule i j t t' s _ _ hc ⟨.int (g i j),H,I.tok _,⟨_,rfl⟩,q⟩
theorem xu {f:Value->Value->Sem Value} {g:Int->Int->Int}
   (rule:∀(i j:Int) (t u:Tok) (s:Shared) (Q:Value->Shared->Prop) (E:Value->Shared->Prop),Q (.int (g i j) s.toks) {s with toks:=s.toks+1}->wpAny (model X.prog X.w) X.A (f (.int i t) (.int j u)) Q E s):
   J0 X f (kB λi j=>.int (g i j)):=by
 intro pins s σ H x y v u Q I rx ry h
 obtain⟨i,j,rfl,rfl,q⟩:=h
 obtain⟨t,rfl⟩:=rx
 obtain⟨t',rfl⟩:=ry
 exact rule i j t t' s _ _ ⟨.int (g i j),H,I.tok _,⟨_,rfl⟩,q⟩
theorem Ke {f:Value->Value->Sem Value} {g:Int->Int->Bool}
   (rule:∀(i j:Int) (t u:Tok) (s:Shared) (Q:Value->Shared->Prop) (E:Value->Shared->Prop),Q (.bool (g i j)) s->wpAny (model X.prog X.w) X.A (f (.int i t) (.int j u)) Q E s):
   J0 X f (kB λi j=>.bl (g i j)):=by
 intro pins s σ H x y v u Q I rx ry h
 obtain⟨i,j,rfl,rfl,q⟩:=h
 obtain⟨t,rfl⟩:=rx
 obtain⟨t',rfl⟩:=ry
 exact rule i j t t' s _ _ ⟨.bl (g i j),H,I,rfl,q⟩
def qaE (i j:Int):Prop:=0 < j/\j < 1073741824
def K5 (i j:Int):Prop:=0<=j/\j<=1000000/\i.natAbs < 2^64
def Nu (i j:Int):Prop:=(-(2^64) < i/\i < 2^64)\/(-(2^64) < j/\j < 2^64)
theorem Nu.ok {i j:Int} (h:Nu i j):IntMulOk i j:=by
 rcases h with ⟨h1,h2⟩ | ⟨h1,h2⟩
 . exact .of_left (intBits_le_64 h1 h2)
 . exact .of_right (intBits_le_64 h1 h2)
theorem VH (k:Nat):(0:Int)<=2^k:=by
 rw[two_pow_cast]
 exact Int.natCast_nonneg _
theorem Q0:J0 X (binaryOp .Add) (kB λi j=>.int (i+j)):=xu λ_ _ _ _ _ _ _ q=>add_int q
theorem Rt:J0 X (binaryOp .Sub) (kB λi j=>.int (i - j)):=xu λ_ _ _ _ _ _ _ q=>sub_int q
theorem Jn:J0 X (binaryOp .Mult) (rI Nu λi j=>.int (i*j)):=Rw λ_ _ _ _ _ _ _ hc q=>mul_int q hc.ok
theorem Kd:J0 X (binaryOp .FloorDiv) (rI qaE λi j=>.int (i / j)):=Rw λi j _ _ _ _ _ hc q=>by
 have h1:(0:Int) < j:=hc.1
 have h2:j < 1073741824:=hc.2
 exact floordiv_int (by omega) (by rw[Int.fdiv_eq_ediv_of_nonneg i (by omega)];exact q) (.inl (PyProof.noPylong_small (by omega)))
theorem QZ:J0 X (binaryOp .Mod) (rI (λ_ j=>0 < j) λi j=>.int (i % j)):=Rw λi j _ _ _ _ _ hc q=>by
 have h1:(0:Int) < j:=hc
 exact mod_int' (by omega) (by rw[Int.fmod_eq_emod_of_nonneg i (by omega)];exact q)
theorem Ru:J0 X (binaryOp .Pow) (rI K5 λi j=>.int (i^j.toNat)):=Rw λ_ _ _ _ _ _ _ hc q=>pow_int_small hc.1 hc.2.1 hc.2.2 q
theorem V1:J0 X (binaryOp .LShift) (rI K5 λi j=>.int (i*2^j.toNat)):=Rw λ_ _ _ _ _ _ _ hc q=>lshift_int_small hc.1 hc.2.1 hc.2.2 q
theorem xn:J0 X (binaryOp .RShift) (rI (λ_ j=>0<=j) λi j=>.int (i / 2^j.toNat)):=Rw λi j _ _ _ _ _ hc q=>
 rshift_int hc (by rw[Int.fdiv_eq_ediv_of_nonneg i (VH _)];exact q)
theorem xt:J0 X (binaryOp .BitAnd) (kB λi j=>.int (Builtin.bitAnd i j)):=xu λ_ _ _ _ _ _ _ q=>and_int q
theorem N6:J0 X (binaryOp .BitOr) (kB λi j=>.int (Builtin.bitOr i j)):=xu λ_ _ _ _ _ _ _ q=>or_int q
theorem Wj:J0 X (binaryOp .BitXor) (kB λi j=>.int (Builtin.bitXor i j)):=xu λ_ _ _ _ _ _ _ q=>xor_int q
end
def NP:V->V->Bool
 | .non,.non=>true | .non,.int _=>true | .int _,.non=>true | .non,.bl _=>true | .bl _,.non=>true | .non,.str _=>true | .str _,.non=>true
 | .int _,.int _=>true | .bl _,.bl _=>true | .str _,.str _=>true | .byt _,.byt _=>true
 | .int _,.str _=>true | .str _,.int _=>true | .bl _,.str _=>true | .str _,.bl _=>true
 | _,_=>false
def rEq:R2:=λx y H Q=>NP x y=true/\Q (.bl (decide (x=y))) H
def rNe:R2:=λx y H Q=>NP x y=true/\Q (.bl (!decide (x=y))) H
theorem vD {i j:Int}:decide (V.int i=V.int j)=(i==j):=by
 rw[Bool.eq_iff_iff]
 simp
theorem wR {i j:Bool}:decide (V.bl i=V.bl j)=(i==j):=by
 rw[Bool.eq_iff_iff]
 simp
theorem vC {i j:Str}:decide (V.str i=V.str j)=(i==j):=by
 rw[Bool.eq_iff_iff]
 simp
theorem vE {i j:Array UInt8}:decide (V.byt i=V.byt j)=(i.toList==j.toList):=by
 rw[Bool.eq_iff_iff]
 cases i
 cases j
 simp
section
variable {X:Cx} {a b c:Expr} {ta tb tc:TE} {pos:Pos}
theorem qQ {pins:List (Addr×Obj)} {σ:St} {H:Hp} {s:Shared} {Q:VK} {k k':Bool} (I:qx X pins σ H s) (q:Q (.bl k) H) (e:k=k'):EP X pins σ Q (.bool k') s:=by
 subst e
 exact⟨.bl k,H,I,rfl,q⟩
theorem Qe:J0 X (compareOp .Eq) rEq:=by
 intro pins s σ H x y v u Q I rx ry h
 obtain⟨hs,q⟩:=h
 cases x with
 | non=>
   cases rx
   cases y with
   | non=>cases ry;exact PySem.EqNone.eq_none_none (qQ I q (by simp))
   | bl j=>cases ry;exact PySem.EqNone.eq_none_bool (qQ I q (by simp))
   | int j=>obtain⟨t',rfl⟩:=ry;exact PySem.EqNone.eq_none_int (qQ I q (by simp))
   | str j=>obtain⟨t',rfl⟩:=ry;exact PySem.EqNone.eq_none_str (qQ I q (by simp))
   | _=>exact absurd (show false=true from hs) Bool.false_ne_true
 | bl i=>
   cases rx
   cases y with
   | non=>cases ry;exact PySem.EqNone.eq_bool_none (qQ I q (by simp))
   | bl j=>cases ry;exact eq_bool (qQ I q wR)
   | str j=>obtain⟨t',rfl⟩:=ry;exact PySem.EqMixed.eq_bool_str (qQ I q (by simp))
   | _=>exact absurd (show false=true from hs) Bool.false_ne_true
 | int i=>
   obtain⟨t,rfl⟩:=rx
   cases y with
   | non=>cases ry;exact PySem.EqNone.eq_int_none (qQ I q (by simp))
   | int j=>obtain⟨t',rfl⟩:=ry;exact eq_int (qQ I q vD)
   | str j=>obtain⟨t',rfl⟩:=ry;exact PySem.EqMixed.eq_int_str (qQ I q (by simp))
   | _=>exact absurd (show false=true from hs) Bool.false_ne_true
 | str i=>
   obtain⟨t,rfl⟩:=rx
   cases y with
   | non=>cases ry;exact PySem.EqNone.eq_str_none (qQ I q (by simp))
   | bl j=>cases ry;exact PySem.EqMixed.eq_str_bool (qQ I q (by simp))
   | int j=>obtain⟨t',rfl⟩:=ry;exact PySem.EqMixed.eq_str_int (qQ I q (by simp))
   | str j=>obtain⟨t',rfl⟩:=ry;exact eq_str (qQ I q vC)
   | _=>exact absurd (show false=true from hs) Bool.false_ne_true
 | byt i=>
   obtain⟨t,rfl⟩:=rx
   cases y with
   | byt j=>obtain⟨t',rfl⟩:=ry;exact PySem.W.eq_bytes (qQ I q vE)
   | _=>exact absurd (show false=true from hs) Bool.false_ne_true
 | _=>cases y<;>exact absurd (show false=true from hs) Bool.false_ne_true
theorem Vb:J0 X (compareOp .NotEq) rNe:=by
 intro pins s σ H x y v u Q I rx ry h
 obtain⟨hs,q⟩:=h
 cases x with
 | non=>
   cases rx
   cases y with
   | non=>cases ry;exact PySem.EqNone.ne_none_none (qQ I q (by simp))
   | bl j=>cases ry;exact PySem.EqNone.ne_none_bool (qQ I q (by simp))
   | int j=>obtain⟨t',rfl⟩:=ry;exact PySem.EqNone.ne_none_int (qQ I q (by simp))
   | str j=>obtain⟨t',rfl⟩:=ry;exact PySem.EqNone.ne_none_str (qQ I q (by simp))
   | _=>exact absurd (show false=true from hs) Bool.false_ne_true
 | bl i=>
   cases rx
   cases y with
   | non=>cases ry;exact PySem.EqNone.ne_bool_none (qQ I q (by simp))
   | bl j=>cases ry;exact ne_bool (qQ I q (congrArg not wR))
   | str j=>obtain⟨t',rfl⟩:=ry;exact PySem.EqMixed.ne_bool_str (qQ I q (by simp))
   | _=>exact absurd (show false=true from hs) Bool.false_ne_true
 | int i=>
   obtain⟨t,rfl⟩:=rx
   cases y with
   | non=>cases ry;exact PySem.EqNone.ne_int_none (qQ I q (by simp))
   | int j=>obtain⟨t',rfl⟩:=ry;exact ne_int (qQ I q (congrArg not vD))
   | str j=>obtain⟨t',rfl⟩:=ry;exact PySem.EqMixed.ne_int_str (qQ I q (by simp))
   | _=>exact absurd (show false=true from hs) Bool.false_ne_true
 | str i=>
   obtain⟨t,rfl⟩:=rx
   cases y with
   | non=>cases ry;exact PySem.EqNone.ne_str_none (qQ I q (by simp))
   | bl j=>cases ry;exact PySem.EqMixed.ne_str_bool (qQ I q (by simp))
   | int j=>obtain⟨t',rfl⟩:=ry;exact PySem.EqMixed.ne_str_int (qQ I q (by simp))
   | str j=>obtain⟨t',rfl⟩:=ry;exact ne_str (qQ I q (congrArg not vC))
   | _=>exact absurd (show false=true from hs) Bool.false_ne_true
 | byt i=>
   obtain⟨t,rfl⟩:=rx
   cases y with
   | byt j=>obtain⟨t',rfl⟩:=ry;exact PySem.W.ne_bytes (qQ I q (congrArg not vE))
   | _=>exact absurd (show false=true from hs) Bool.false_ne_true
 | _=>cases y<;>exact absurd (show false=true from hs) Bool.false_ne_true
theorem QN:J0 X (compareOp .Lt) (kB λi j=>.bl (decide (i < j))):=Ke λ_ _ _ _ _ _ _ q=>lt_int q
theorem vk:J0 X (compareOp .LtE) (kB λi j=>.bl (decide (i<=j))):=Ke λ_ _ _ _ _ _ _ q=>le_int q
theorem zo:J0 X (compareOp .Gt) (kB λi j=>.bl (decide (j < i))):=Ke λ_ _ _ _ _ _ _ q=>gt_int q
theorem xp:J0 X (compareOp .GtE) (kB λi j=>.bl (decide (j<=i))):=Ke λ_ _ _ _ _ _ _ q=>ge_int q
theorem kI:J0 X (compareOp .In) (λx y H Q=>∃i j,x=.str i/\y=.str j/\Q (.bl (!(Builtin.Str.occurrences j i 0 j.length 1).isEmpty)) H):=by
 intro pins s σ H x y v u Q I rx ry h
 obtain⟨i,j,rfl,rfl,q⟩:=h
 obtain⟨t,rfl⟩:=rx
 obtain⟨t',rfl⟩:=ry
 exact in_str (qQ I q rfl)
theorem Rv:J0 X (compareOp .Is) (λx y H Q=>y=.non/\Q (.bl (decide (x=.non))) H):=by
 intro pins s σ H x y v u Q I rx ry h
 obtain⟨rfl,q⟩:=h
 cases ry
 refine is_none_gen (qQ I q ?_)
 cases x<;>first
   | (cases rx;rfl)
   | (obtain⟨t,rfl⟩:=rx;rfl)
theorem qy (b:Expr) {op:CmpOp} (h:op≠.In:=by decide) (h2:op≠.NotIn:=by decide):behindInMarks op b=false:=by
 have e1:(op==CmpOp.In)=false:=by cases op<;>first | rfl | exact absurd rfl h
 have e2:(op==CmpOp.NotIn)=false:=by cases op<;>first | rfl | exact absurd rfl h2
 cases b<;>simp [behindInMarks,e1,e2]
theorem ju {op:CmpOp} {r:R2} (ho:J0 X (compareOp op) r) (ha:JE X a ta) (hb:JE X b tb) (hm:behindInMarks op b=false):JE X (.Compare a [op] [b] pos) (zH r ta tb):=.of (by
 have ha:=ha.to
 have hb:=hb.to
 intro pins s σ H Q I h
 exact wpAny_Compare1 (Nf ha hb I h λv u s2 x y H2 I2 rx ry q=>ho pins s2 σ H2 x y v u Q I2 rx ry q) hm)
def Y8 (t:TE):TT:=λσ H Q=>t σ H λx H'=>∃k,x=.bl k/\Q k H'
theorem qu {op:CmpOp} {r:R2} (ho:J0 X (compareOp op) r) (ha:JE X a ta) (hb:JE X b tb) (hm:behindInMarks op b=false):JT X (.Compare a [op] [b] pos) (Y8 (zH r ta tb)):=.of (by
 have ha:=ha.to
 have hb:=hb.to
 intro pins s σ H Q I h
 refine wpAny_isTrue_Compare1 (q5 (ha pins s σ H _ I h) λv s1 ⟨x,H1,I1,r1,q1⟩=>q5 (hb pins s1 σ H1 _ I1 q1) λu s2 ⟨y,H2,I2,r2,q2⟩=>
   q5 (ho pins s2 σ H2 x y v u _ I2 r1 r2 q2) λc s3 ⟨z,H3,I3,r3,k,e,q3⟩=>?_) hm
 subst e
 cases r3
 exact wpAny_truthy_bool ⟨H3,I3,q3⟩)
theorem YB:(sizeLine:Nat) < 2^63:=by rw[sizeLine_eq];decide
theorem Yz:J0 X (binaryOp .Add) (λx y H Q=>∃i j,x=.str i/\y=.str j/\i.length+j.length<=sizeLine/\Q (.str (i++j)) H):=by
 intro pins s σ H x y v u Q I rx ry h
 obtain⟨i,j,rfl,rfl,hz,q⟩:=h
 obtain⟨t,rfl⟩:=rx
 obtain⟨t',rfl⟩:=ry
 exact add_str (λt' tk=>⟨.str (i++j),H,I.tok _,⟨_,rfl⟩,q⟩) hz
theorem Q7 {x:V} {us:List Value} (r:qD [x] us):∃u,us=[u]/\qK x u:=by
 cases r with
 | cons r1 r2=>cases r2;exact⟨_,rfl,r1⟩
theorem UD {x y:V} {us:List Value} (r:qD [x,y] us):∃u w',us=[u,w']/\qK x u/\qK y w':=by
 cases r with
 | cons r1 r2=>
   cases r2 with
   | cons r3 r4=>cases r4;exact⟨_,_,rfl,r1,r3⟩
theorem Xq (hc:X.calm=true):Qs X (.builtin "max") (λxs H Q=>∃i j,xs=[.int i,.int j]/\Q (.int (if j > i then j else i)) H):=by
 intro pins s σ H xs us Q I r h
 obtain⟨i,j,rfl,q⟩:=h
 obtain⟨u,w',rfl,⟨t,rfl⟩,⟨t',rfl⟩⟩:=UD r
 refine max_two_ints (I.ok.hd hc) λh' tk k=>⟨_,H,I.kept k,?_,q⟩
 by_cases hj:j > i
 . rw[if_pos hj,if_pos hj];exact⟨_,rfl⟩
 . rw[if_neg hj,if_neg hj];exact⟨_,rfl⟩
theorem yp (hc:X.calm=true):Qs X (.builtin "min") (λxs H Q=>∃i j,xs=[.int i,.int j]/\Q (.int (if j < i then j else i)) H):=by
 intro pins s σ H xs us Q I r h
 obtain⟨i,j,rfl,q⟩:=h
 obtain⟨u,w',rfl,⟨t,rfl⟩,⟨t',rfl⟩⟩:=UD r
 refine min_two_ints (I.ok.hd hc) λh' tk k=>⟨_,H,I.kept k,?_,q⟩
 by_cases hj:j < i
 . rw[if_pos hj,if_pos hj];exact⟨_,rfl⟩
 . rw[if_neg hj,if_neg hj];exact⟨_,rfl⟩
theorem Xr:Qs X (.type "int") (λxs H Q=>(∃i,xs=[.int i]/\Q (.int i) H)\/∃k,xs=[.bl k]/\Q (.int (if k then 1 else 0)) H):=by
 intro pins s σ H xs us Q I r h
 rcases h with ⟨i,rfl,q⟩ | ⟨k,rfl,q⟩
 . obtain⟨u,rfl,t,rfl⟩:=Q7 r
   exact call_int_int ⟨.int i,H,I,⟨_,rfl⟩,q⟩
 . obtain⟨u,rfl,r1⟩:=Q7 r
   cases r1
   exact call_int_bool ⟨.int (if k then 1 else 0),H,I.tok _,⟨_,rfl⟩,q⟩
end
end L2
namespace L2
open PySem PySem.Spec PyProof.Rows
structure Ut (h:Heap) (x dx C:Addr) (mA:Str->Option Value):Prop where
 obj:h.get? x=some (PySem.W.instObj C dx)
 ns:h.Ns1 dx mA
 ne:dx≠x
theorem Z4 {h:Heap} {dx:Addr} {mA:Str->Option Value} (n:h.Ns1 dx mA):∃od,h.get? dx=some od/\∀name,PySem.W.lookIn name od=some (mA name):=by
 obtain⟨o,es,ep,ho,hd,hk,_,hm⟩:=n
 refine⟨o,ho,λname=>?_⟩
 have e:=hm name
 unfold nsFind findBy at e
 rw[<-Array.find?_toList]at e
 unfold PySem.W.lookIn
 rw[hd]
 dsimp only
 split
 . rename_i y q
   rw[q]at e
   exact congrArg some e
 . rename_i q
   rw[q]at e
   have a:es.toList.any (·.refKey)=false:=by
     rw[List.any_eq_false]
     intro y hy
     obtain⟨z,t,hkey⟩:=hk y (Array.mem_toList_iff.mp hy)
     simp [DictEntry.refKey,hkey]
   have a':¬es.toList.any (·.refKey)=true:=by rw[a];exact Bool.false_ne_true
   rw[if_neg a']
   exact congrArg some e
theorem Ut.look {h:Heap} {x dx C:Addr} {mA:Str->Option Value} (I:Ut h x dx C mA):∃od,PySem.W.InstAt h x (PySem.W.instObj C dx) C (some od)/\∀name,PySem.W.lookIn name od=some (mA name):=
 let ⟨od,ho,hl⟩:=Z4 I.ns
 ⟨od,⟨I.obj,rfl,rfl,ho⟩,hl⟩
section
variable {prog:Program} {w:World} {A:Around} {E:Value->Shared->Prop} {s:Shared} {K:PySem.W.Frag} {x dx C f:Addr} {mA:Str->Option Value} {name:Str} {v:Value}
theorem KI {expr:Bool} {Q:Value->Shared->Prop} (X:K.In s.heap) (I:Ut s.heap x dx C mA) (hg:PySem.W.plainGet K C name=true) (hh:PySem.W.hasDictIn K C=true)
   (ha:PySem.W.findIn K (.ref C) name=some none) (hv:mA name=some v) (hv':PySem.W.handedIn v=true) (h:Q v {s with toks:=s.toks+1}):
   wpAny (model prog w) A (getAttr (.ref x) name expr) Q E s:=by
 obtain⟨od,J,hl⟩:=I.look
 exact PySem.W.get_value X J (PySem.W.plainGet_of hg).1 (PySem.W.findObj_own hh ha rfl (by rw[hl,hv])) hv' h
theorem wG {pl:Sem Bool} {Q:Value×List Value->Shared->Prop} (X:K.In s.heap) (I:Ut s.heap x dx C mA) (hg:PySem.W.plainGet K C name=true)
   (hf:PySem.W.findIn K (.ref C) name=some (some (.ref f))) (ht:PySem.W.isFn K (.ref f)=true) (hv:mA name=none) (h:Q (.ref f,[.ref x]) s):
   wpAny (model prog w) A (getMethod (.ref x) name pl) Q E s:=by
 obtain⟨od,J,hl⟩:=I.look
 exact PySem.W.method_fn X J (PySem.W.plainGet_of hg).1 (PySem.W.plainGet_of hg).2 hf (beq_iff_eq.mp ht) (by show (PySem.W.lookIn name od).map (·.isSome)=some false;rw[hl,hv];rfl) h
theorem uF {ns:List Str} {Q:Unit->Shared->Prop} (X:K.In s.heap) (I:Ut s.heap x dx C mA)
   (hs:PySem.W.findIn K (.ref C) "__setattr__"=some (some (.builtin "object.__setattr__"))) (hp:PySem.W.plainOver K C=true) (ht:PySem.W.takerIn K C name=some none) (hh:PySem.W.hasDictIn K C=true)
   (hw:PySem.Within mA ns) (hsz:ns.length<=sizeLine)
   (h:∀h',Ut h' x dx C (λy=>if y=name then some v else mA y)->Heap.SameBut dx s.heap h'->Q () {s with heap:=h',toks:=s.toks+2}):
   wpAny (model prog w) A (setAttr (.ref x) name v) Q E s:=by
 obtain⟨od,J,hl⟩:=I.look
 refine PySem.W.set_plain X J hs (PySem.W.osa_open (s:={s with toks:=s.toks+1}) (r:=none) X J hp ht λb=>?_)
 obtain⟨cd,hc,hd'⟩:=PySem.W.any_some hh
 have hx:s.heap.get? x=some ⟨.ref C,some dx,.plain,#[]⟩:=I.obj
 refine wpAny_bind (wpAny_pure (wpAny_bind (wpAny_bind (wpAny_loadPart hx (wpAny_bind (PySem.W.Looks.here (s:={s with toks:=s.toks+1}) (PySem.W.looks_clsIn X hc) ?_))))))
 rw[hd']
 refine wpAny_pure (a:=some dx) (wpAny_bind (wpAny_pure (wpAny_bind ?_)))
 refine wpAny_nsSet1 (s:={s with toks:=s.toks+1}) I.ns λh' hn2 hs2=>?_
 obtain⟨oD,esD,epD,hoD,hdD,hcD⟩:=hn2.count (PySem.Within.cons name v hw)
 refine wpAny_bind (wpAny_lookBehind hoD (by rw[hdD];exact pastItsLine_dict (Nat.le_trans hcD (by rw[List.length_cons];omega))) ?_)
 exact wpAny_pure (h _ ⟨(hs2.2 _ (Ne.symm I.ne)).trans I.obj,hn2,I.ne⟩ hs2)
theorem xS {R:Result->Shared->Prop} {vs:List Value} {kw:List (Str×Value)} (X:K.In s.heap) (hm:PySem.W.makesIn K C=true)
   (hi:PySem.W.findIn K (.ref C) "__init__"=some (some (.ref f))) (hf:PySem.W.typeIn K (.ref f)=some (.type "function"))
   (h:codeAny (model prog w) (A.under (.builtin "type.__call__" ⟨.ref C::vs,kw⟩)) (.call (.ref f) ⟨.ref (s.heap.objs.size+1)::vs,kw⟩) (PySem.W.InitBack (s.heap.objs.size+1) R)
     {s with heap:=(s.heap.push PySem.W.emptyDict).push (PySem.W.instObj C s.heap.objs.size)}):
   codeAny (model prog w) A (.call (.ref C) ⟨vs,kw⟩) R s:=by
 obtain⟨hh,g,d,t,os⟩:=s
 exact PySem.W.make_core (PySem.W.makes_of X hm) (PySem.W.looks_findIn X hi) (λself=>PySem.W.bind_fn X self hf) (.inl rfl) h
end
def Jl (f:Str) (v:V):List (Str×V)->List (Str×V)
 | []=>[(f,v)]
 | (g,x)::r=>if g=f then (g,v)::r else (g,x)::Jl f v r
theorem zq (f g:Str) (v:V):∀fs:List (Str×V),(Jl f v fs).lookup g=if g=f then some v else fs.lookup g
 | []=>by
   show List.lookup g [(f,v)]=_
   by_cases h:g=f
   . have hb:(g==f)=true:=beq_iff_eq.mpr h
     simp only[List.lookup,hb,if_pos h]
   . have hb:(g==f)=false:=beq_eq_false_iff_ne.mpr h
     simp only[List.lookup,hb,if_neg h]
 | (k,x)::r=>by
   have ih:=zq f g v r
   rw[show Jl f v ((k,x)::r)=(if k=f then (k,v)::r else (k,x)::Jl f v r) from rfl]
   by_cases hk:k=f
   . rw[if_pos hk]
     by_cases h:g=k
     . have hb:(g==k)=true:=beq_iff_eq.mpr h
       simp only[List.lookup,hb,if_pos (h.trans hk)]
     . have hb:(g==k)=false:=beq_eq_false_iff_ne.mpr h
       simp only[List.lookup,hb,if_neg (λe:g=f=>h (e.trans hk.symm))]
   . rw[if_neg hk]
     by_cases h:g=k
     . have hb:(g==k)=true:=beq_iff_eq.mpr h
       simp only[List.lookup,hb,if_neg (λe:g=f=>hk (h.symm.trans e))]
     . have hb:(g==k)=false:=beq_eq_false_iff_ne.mpr h
       simp only[List.lookup,hb]
       exact ih
theorem Z5 (f:Str) (v:V):∀fs:List (Str×V),f∈(Jl f v fs).map (·.1)/\∀g,g∈fs.map (·.1)->g∈(Jl f v fs).map (·.1)
 | []=>⟨by simp [Jl],λg h=>by simp at h⟩
 | (k,x)::r=>by
   obtain⟨i1,i2⟩:=Z5 f v r
   rw[show Jl f v ((k,x)::r)=(if k=f then (k,v)::r else (k,x)::Jl f v r) from rfl]
   by_cases hk:k=f
   . rw[if_pos hk]
     subst hk
     exact⟨by simp,λg h=>by simpa using h⟩
   . rw[if_neg hk]
     refine⟨?_,λg h=>?_⟩
     . rw[List.map_cons]
       exact List.mem_cons_of_mem _ i1
     . rw[List.map_cons]at h ⊢
       rcases List.mem_cons.mp h with e | e
       . exact List.mem_cons.mpr (.inl e)
       . exact List.mem_cons_of_mem _ (i2 g e)
theorem zr (f:Str) (v:V):∀fs:List (Str×V),(Jl f v fs).length<=fs.length+1
 | []=>by simp [Jl]
 | (k,x)::r=>by
   have ih:=zr f v r
   rw[show Jl f v ((k,x)::r)=(if k=f then (k,v)::r else (k,x)::Jl f v r) from rfl]
   by_cases hk:k=f
   . rw[if_pos hk,List.length_cons,List.length_cons];omega
   . rw[if_neg hk,List.length_cons,List.length_cons];omega
theorem Ji.some_of {v:V} {o:Option Value} (r:Ji (some v) o):∃u,o=some u/\qK v u:=by
 cases o with
 | none=>exact(show False from r).elim
 | some u=>exact⟨u,rfl,r⟩
theorem Ji.none_of {o:Option Value} (r:Ji none o):o=none:=by
 cases o with
 | none=>rfl
 | some u=>exact(show False from r).elim
theorem Xo {v:V} {u:Value} (r:qK v u):PySem.W.handedIn u=true:=by
 cases v with
 | non=>cases (show u=Value.none from r);rfl
 | bl b=>cases (show u=Value.bool b from r);rfl
 | int i=>obtain⟨t,e⟩:=(show ∃t,u=Value.int i t from r);cases e;rfl
 | str x=>obtain⟨t,e⟩:=(show ∃t,u=Value.str x t from r);cases e;rfl
 | byt b=>obtain⟨t,e⟩:=(show ∃t,u=Value.bytes b t from r);cases e;rfl
 | flt b=>obtain⟨t,e⟩:=(show ∃t,u=Value.float b t from r);cases e;rfl
 | ref a=>cases (show u=Value.ref a from r);rfl
 | ty n=>cases (show u=Value.type n from r);rfl
section
variable {P:Program} {w:World} {H H':Hp} {h h':Heap} {a C dx:Addr} {fs fs':List (Str×V)}
theorem zU (hok:Jk P w H h) (e:H a=some (.ins C dx fs)):∃mA,Ut h a dx C mA/\(∀f,Ji (fs.lookup f) (mA f))/\PySem.Within mA (fs.map (·.1))/\fs.length<=1000/\H dx=some (.own a):=by
 obtain⟨d,z,ne,ob,mA,n,r,q⟩:=(show qG P w H h a (.ins C dx fs) from hok a _ e)
 exact⟨mA,⟨ob,n,ne⟩,r,q,z,d⟩
end
structure z7 (K:PySem.W.Frag) (C:Addr):Prop where
 pg:PySem.W.plainGet K C Str.empty=true
 hd:PySem.W.hasDictIn K C=true
 po:PySem.W.plainOver K C=true
 sa:PySem.W.findIn K (.ref C) "__setattr__"=some (some (.builtin "object.__setattr__"))
theorem z7.get {K:PySem.W.Frag} {C:Addr} (c:z7 K C) (f:Str):PySem.W.plainGet K C f=true:=c.pg
def jF (K:PySem.W.Frag) (C:Addr) (f:Str):Prop:=PySem.W.findIn K (.ref C) f=some none
theorem jF.taker {K:PySem.W.Frag} {C:Addr} {f:Str} (n:jF K C f):PySem.W.takerIn K C f=some none:=by
 unfold PySem.W.takerIn
 rw[show PySem.W.findIn K (.ref C) f=some none from n]
 rfl
structure Con (K:PySem.W.Frag) (C:Addr) (f:Str) (v:V) (u:Value):Prop where
 at_:PySem.W.findIn K (.ref C) f=some (some u)
 rel:qK v u
 get:PySem.W.specialIn K u "__get__"=some none
 cp:PySem.W.copiedNames.contains f=false
structure Y3 (K:PySem.W.Frag) (C:Addr) (m:Str) (f:Addr):Prop where
 at_:PySem.W.findIn K (.ref C) m=some (some (.ref f))
 fn:PySem.W.isFn K (.ref f)=true
 kp:PySem.W.keepIn K (.ref f)=true
section
variable {X:Cx} {pins:List (Addr×Obj)} {σ:St} {H:Hp} {s:Shared} {a C dx:Addr} {fs:List (Str×V)} {f:Str} {v:V} {A:Around} {E:Value->Shared->Prop}
theorem Ud {b:Bool} {Q:Value->Shared->Prop} (I:qx X pins σ H s) (e:H a=some (.ins C dx fs)) (c:z7 X.K C) (n:jF X.K C f) (l:fs.lookup f=some v)
   (h:∀u s',qx X pins σ H s'->qK v u->Q u s'):wpAny (model X.prog X.w) A (getAttr (.ref a) f b) Q E s:=by
 obtain⟨mA,O,r,_,_,_⟩:=zU I.hok e
 obtain⟨u,hu,ru⟩:=Ji.some_of (v:=v) (o:=mA f) (by rw[<-l];exact r f)
 exact KI I.kIn O (c.get f) c.hd n hu (Xo ru) (h u _ (I.tok _) ru)
theorem Qk {m:Str} {g:Addr} {pl:Sem Bool} {Q:Value×List Value->Shared->Prop} (I:qx X pins σ H s) (e:H a=some (.ins C dx fs)) (c:z7 X.K C) (k:Y3 X.K C m g) (l:fs.lookup m=none)
   (h:Q (.ref g,[.ref a]) s):wpAny (model X.prog X.w) A (getMethod (.ref a) m pl) Q E s:=by
 obtain⟨mA,O,r,_,_,_⟩:=zU I.hok e
 have hn:mA m=none:=Ji.none_of (by rw[<-l];exact r m)
 exact wG I.kIn O (c.get m) k.at_ k.fn hn h
theorem VQ {y:V} {u:Value} {Q:Unit->Shared->Prop} (I:qx X pins σ H s) (e:H a=some (.ins C dx fs)) (c:z7 X.K C) (n:jF X.K C f) (hl:fs.length < 1000) (ry:qK y u)
   (h:∀s',qx X pins σ (upd H a (.ins C dx (Jl f y fs))) s'->Q () s'):wpAny (model X.prog X.w) A (setAttr (.ref a) f u) Q E s:=by
 obtain⟨mA,O,r,wi,_,ho⟩:=zU I.hok e
 have hz:(fs.map (·.1)).length<=sizeLine:=by rw[List.length_map,sizeLine_eq];omega
 refine uF I.kIn O c.sa c.po n.taker c.hd wi hz λh' O' sb=>h _ ?_
 have hd:∃o,h'.get? dx=some o:=let ⟨o,_,_,e',_⟩:=O'.ns;⟨o,e'⟩
 refine I.write (x:=a) (e:=dx) (by rw[e];exact True.intro) (.inr ho) (λb q hb z=>(sb.2 b hb).trans z) hd ?_
 refine⟨by rw[qh O.ne];exact ho,?_,O.ne,O'.obj,_,O'.ns,λg=>?_,λg hg=>?_⟩
 . have:=zr f y fs;omega
 . show Ji ((Jl f y fs).lookup g) (if g=f then some u else mA g)
   rw[zq]
   by_cases q:g=f
   . rw[if_pos q,if_pos q];exact ry
   . rw[if_neg q,if_neg q];exact r g
 . by_cases q:g=f
   . rw[q];exact(Z5 f y fs).1
   . refine(Z5 f y fs).2 g (wi g λz=>hg ?_)
     show (if g=f then some u else mA g)=none
     rw[if_neg q];exact z
theorem qx.made (I:qx X pins σ H s):qx X pins σ (upd (upd H s.heap.objs.size (.own (s.heap.objs.size+1))) (s.heap.objs.size+1) (.ins C s.heap.objs.size []))
   {s with heap:=(s.heap.push PySem.W.emptyDict).push (PySem.W.instObj C s.heap.objs.size)}:=by
 have e1:(s.heap.push PySem.W.emptyDict).get? s.heap.objs.size=some PySem.W.emptyDict:=Heap.get?_push_size s.heap rfl
 have e2:((s.heap.push PySem.W.emptyDict).push (PySem.W.instObj C s.heap.objs.size)).get? (s.heap.objs.size+1)=some (PySem.W.instObj C s.heap.objs.size):=by
   have:=Heap.get?_push_size (s.heap.push PySem.W.emptyDict) (o:=PySem.W.instObj C s.heap.objs.size) rfl
   rwa [Heap.size_push]at this
 have e3:(s.heap.push PySem.W.emptyDict).Ns s.heap.objs.size (λ_=>none):=⟨PySem.W.emptyDict,#[],_,e1,rfl,(λe he=>absurd he (by simp)),λ_=>rfl⟩
 have I1:=I.laid (a:=s.heap.objs.size) (o:=.own (s.heap.objs.size+1)) (h':=s.heap.push PySem.W.emptyDict) (t':=s.toks) (λb u q=>Heap.get?_push_of_some _ q) (Nat.le_refl _) ⟨_,e1⟩
 refine I1.laid (a:=s.heap.objs.size+1) (o:=.ins C s.heap.objs.size []) (t':=s.toks) (λb u q=>Heap.get?_push_of_some _ q) (Nat.le_of_eq (Heap.size_push _ _)) ?_
 have ne:s.heap.objs.size≠s.heap.objs.size+1:=Nat.ne_of_lt (Nat.lt_succ_self _)
 refine⟨by rw[qh ne,qd],Nat.zero_le _,ne,e2,λ_=>none,(Heap.Ns1.of_empty e3).at λo q=>Heap.get?_push_of_some _ q,λ_=>True.intro,λy hy=>absurd rfl hy⟩
theorem vL {prog:Program} {w:World} {env:Env} {e:Expr} {f:Str} {pos:Pos} {s:Shared} {Q:Value->Shared->Prop} (hb:attributeBase e f env (eval e env)=eval e env)
   (h:wpAny (model prog w) A (eval e env) (λo s₁=>wpAny (model prog w) A (getAttr o f true) Q E s₁) E s):wpAny (model prog w) A (eval (.Attribute e f pos) env) Q E s:=
 Attribute_any_ h (by rw[arm_eval_Attribute,hb])
end
def MS (K:PySem.W.Frag) (ta:TE) (f:Str):TE:=λσ H Q=>ta σ H λx H1=>∃a C dx fs v,x=.ref a/\H1 a=some (.ins C dx fs)/\z7 K C/\jF K C f/\fs.lookup f=some v/\Q v H1
def M5 (K:PySem.W.Frag) (ta tv:TE) (f:Str):TS:=λD σ H=>tv σ H λy H1=>ta σ H1 λx H2=>∃a C dx fs,x=.ref a/\H2 a=some (.ins C dx fs)/\z7 K C/\jF K C f/\fs.length < 1000/\
 D.nx σ (upd H2 a (.ins C dx (Jl f y fs)))
section
variable {X:Cx} {o e value:Expr} {f:Str} {pos pos' tpos:Pos} {ta tv:TE}
theorem Qj (he:JE X e ta) (hb:attributeBase e f X.env (eval e X.env)=eval e X.env):JE X (.Attribute e f pos) (MS X.K ta f):=.of (by
 have he:=he.to
 intro pins s σ H Q I h
 refine vL hb (q5 (he pins s σ H _ I h) λu s1 ⟨x,H1,I1,rx,a,C,dx,fs,v,ex,ea,c,n,l,q⟩=>?_)
 subst ex
 obtain rfl:u=Value.ref a:=rx
 exact Ud I1 ea c n l λu' s2 I2 ru=>⟨v,H1,I2,ru,q⟩)
theorem Wu (ha:JE X o ta) (hv:JE X value tv) (hs:swapsWith value (some (.Attribute o f pos')) pos.line X.env=pure false):JS X (.Assign [.Attribute o f pos'] value pos) (M5 X.K ta tv f):=.of (by
 have ha:=ha.to
 have hv:=hv.to
 intro pins s σ H D I h
 refine plainObj_wpAny_Assign_Attribute (q5 (hv pins s σ H _ I h) λu s1 ⟨y,H1,I1,ry,q⟩=>q5 (ha pins s1 σ H1 _ I1 q) λov s2 ⟨x,H2,I2,rx,a,C,dx,fs,ex,ea,c,n,l,q2⟩=>?_) hs
 subst ex
 obtain rfl:ov=Value.ref a:=rx
 exact VQ I2 ea c n l ry λs3 I3=>⟨σ,_,I3,q2⟩)
end
section
variable {X:Cx} {pins:List (Addr×Obj)} {σ:St} {H:Hp} {s:Shared} {A:Around} {E:Value->Shared->Prop} {Q:Value->Shared->Prop} {c:Value} {b:Bool}
inductive TyOf (K:PySem.W.Frag) (H:Hp):V->Value->Prop where
 | non:TyOf K H .non (.type "NoneType")
 | bl (x:Bool):TyOf K H (.bl x) (.type "bool")
 | int (i:Int):TyOf K H (.int i) (.type "int")
 | str (x:Str):TyOf K H (.str x) (.type "str")
 | flt (x:UInt64):TyOf K H (.flt x) (.type "float")
 | lst {a:Addr} {xs:List V} (e:H a=some (.lst xs)):TyOf K H (.ref a) (.type "list")
 | frz {a:Addr} {o:Obj} {xs:List V} (e:H a=some (.frz o (.lst xs))):TyOf K H (.ref a) (.type "list")
 | tup {a:Addr} {xs:List V} (e:H a=some (.tup xs)):TyOf K H (.ref a) (.type "tuple")
 | dK {a:Addr} {kvs:List (qE×V)} (e:H a=some (.dK kvs)):TyOf K H (.ref a) (.type "dict")
 | dT {a:Addr} {kvs:List (List qE×V)} (e:H a=some (.dT kvs)):TyOf K H (.ref a) (.type "dict")
 | ins {a C dx:Addr} {fs:List (Str×V)} (e:H a=some (.ins C dx fs)) (cl:z7 K C) (ha:PySem.W.findIn K (.ref C) "__class__"=some (some (.builtin "object.__class__")))
     (hn:PySem.W.specialIn K (.builtin "object.__class__") "__get__"=some (some (.builtin "getset_descriptor.__get__"))) (htk:PySem.W.takesIn K (.builtin "object.__class__")=some true)
     (hm:PySem.W.mroIn K C (.type "object")=some true):TyOf K H (.ref a) (.ref C)
theorem k7 {x:V} {u t:Value} (I:qx X pins σ H s) (rx:qK x u) (ty:TyOf X.K H x t) (e:PySem.W.kitOne X.K t c=some b) (h:∀tk,Q (.bool b) {s with toks:=tk}):
   wpAny (model X.prog X.w) A (call (.builtin "isinstance") [u,c]) Q E s:=by
 cases ty with
 | non=>cases (show u=Value.none from rx);exact PySem.W.kia_one PySem.W.kitx_none I.kIn True.intro e (λz=>nomatch z) h
 | bl y=>cases (show u=Value.bool y from rx);exact PySem.W.kia_one PySem.W.kitx_bool I.kIn True.intro e (λz=>nomatch z) h
 | int i=>obtain⟨t,q⟩:=(show ∃t,u=Value.int i t from rx);cases q;exact PySem.W.kia_one PySem.W.kitx_int I.kIn True.intro e (λz=>nomatch z) h
 | str y=>obtain⟨t,q⟩:=(show ∃t,u=Value.str y t from rx);cases q;exact PySem.W.kia_one PySem.W.kitx_str I.kIn True.intro e (λz=>nomatch z) h
 | flt y=>obtain⟨t,q⟩:=(show ∃t,u=Value.float y t from rx);cases q;exact PySem.W.kia_one PySem.W.kitx_float I.kIn True.intro e (λz=>nomatch z) h
 | @lst a xs ea=>
   cases (show u=Value.ref a from rx)
   obtain⟨_,_,n,_,h1⟩:=(show qG X.prog X.w H s.heap a (.lst xs) from I.hok a _ ea)
   exact PySem.W.kia_one PySem.W.kitx_list I.kIn ⟨_,h1,rfl⟩ e (λz=>nomatch z) h
 | @frz a ob xs ea=>
   cases (show u=Value.ref a from rx)
   obtain⟨_,_,_,n,_,h1⟩:=(show qG X.prog X.w H s.heap a (.frz ob (.lst xs)) from I.hok a _ ea)
   exact PySem.W.kia_one PySem.W.kitx_list I.kIn ⟨_,h1,rfl⟩ e (λz=>nomatch z) h
 | @tup a xs ea=>
   cases (show u=Value.ref a from rx)
   obtain⟨_,_,_,p⟩:=(show qG X.prog X.w H s.heap a (.tup xs) from I.hok a _ ea)
   obtain⟨o,h1,h2,_⟩:=p
   exact PySem.W.kia_one PySem.W.kitx_tuple I.kIn ⟨o,h1,h2⟩ e (λz=>nomatch z) h
 | @dK a kvs ea=>
   cases (show u=Value.ref a from rx)
   obtain⟨_,_,vs,_,p⟩:=(show qG X.prog X.w H s.heap a (.dK kvs) from I.hok a _ ea)
   obtain⟨o,es,ep,h1,h2,_⟩:=p
   exact PySem.W.kia_one PySem.W.kitx_dict I.kIn ⟨o,h1,h2.1⟩ e (λz=>nomatch z) h
 | @dT a kvs ea=>
   cases (show u=Value.ref a from rx)
   obtain⟨_,_,xs,_,o,es,ep,h1,h2,_⟩:=(show qG X.prog X.w H s.heap a (.dT kvs) from I.hok a _ ea)
   exact PySem.W.kia_one PySem.W.kitx_dict I.kIn ⟨o,h1,h2.1⟩ e (λz=>nomatch z) h
 | @ins a C dx fs ea cl ha hn htk hm=>
   cases (show u=Value.ref a from rx)
   obtain⟨mA,O,_⟩:=zU I.hok ea
   obtain⟨od,J,_⟩:=O.look
   exact PySem.W.kia_one (PySem.W.kitx_own (cl.get _) cl.hd ha hn htk hm) I.kIn J e (λz=>nomatch z) h
end
end L2
namespace L2
open PySem PySem.Spec PyProof.Rows
structure qW (k:Nat) (A:Around):Prop where
 hd:A.handled=none
 dp:A.depth+3*k+5 < recursionLimit
 un:A.units+16*k+200 < cLine
 gd:A.guards=some []
theorem qW.mono {j k:Nat} {A:Around} (r:qW k A) (h:j<=k):qW j A:=⟨r.hd,by have:=r.dp;omega,by have:=r.un;omega,r.gd⟩
theorem qW.deeper {k:Nat} {A:Around} (r:qW (k+1) A) (env:Env):qW k (A.deeper env):=
 ⟨r.hd,by have:=r.dp;show A.depth+1+3*k+5 < _;omega,by have:=r.un;show A.units+3+16*k+200 < _;omega,r.gd⟩
theorem V9 {A:Around} {C:Addr} {us:List Value} {kw:List (Str×Value)}:(A.under (.builtin "type.__call__" ⟨.ref C::us,kw⟩)).depth=A.depth+1:=by
 first | rfl | simp [Around.under,Code.weight,Code.isCreation,Code.isGuard,Code.isCaller,Code.frames,Code.isFrame,guardIds]
theorem V8 {A:Around} {C:Addr} {us:List Value} {kw:List (Str×Value)}:(A.under (.builtin "type.__call__" ⟨.ref C::us,kw⟩)).units=A.units+1:=by
 first | rfl | simp [Around.under,Code.cUnits,Code.frames,Code.isFrame]
theorem qW.make {k:Nat} {A:Around} (r:qW (k+1) A) (C:Addr) (us:List Value) (kw:List (Str×Value)):qW k (A.under (.builtin "type.__call__" ⟨.ref C::us,kw⟩)):=
 ⟨r.hd,by have:=r.dp;rw[V9];omega,by have:=r.un;rw[V8];omega,(by have:=r.gd;first | exact this | simpa [Around.under,Code.isGuard,guardIds] using this)⟩
theorem qW.depth {k:Nat} {A:Around} (r:qW k A):A.depth < recursionLimit:=by have:=r.dp;omega
theorem qW.units {k:Nat} {A:Around} (r:qW k A):A.units+64 < cLine:=by have:=r.un;omega
def Zd:TA:=λ_ H Q=>Q [] H
def jI (ta:TE) (tr:TA):TA:=λσ H Q=>ta σ H λx H1=>tr σ H1 λxs H2=>Q (x::xs) H2
section
variable {X:Cx} {e:Expr} {es:List Expr} {te:TE} {t:TA} {pos:Pos}
theorem qf:JA X [] Zd:=.of (by
 exact λ_ _ _ _ H Q I h=>Calls.spliced_nil ⟨[],H,I,.nil,h⟩)
theorem qb (ha:JE X e te) (hr:JA X es t) (hs:starEach (e::es) X.env=(false,eval e X.env)::starEach es X.env:=by rfl):JA X (e::es) (jI te t):=.of (by
 have ha:=ha.to
 have hr:=hr.to
 intro pos pins s σ H Q I h
 rw[hs]
 show wpAny _ _ (spliced ((false,eval e X.env)::backTo pos (starEach es X.env))) _ _ s
 refine Calls.spliced_cons (q5 (ha pins s σ H _ I h) λu s1 ⟨x,H1,I1,r1,q1⟩=>?_)
 exact q5 (hr pos pins s1 σ H1 _ I1 q1) λus s2 ⟨xs,H2,I2,r2,q2⟩=>⟨x::xs,H2,I2,.cons r1 r2,q2⟩)
def um (t:TA):TE:=λσ H Q=>t σ H λxs H1=>xs.length<=sizeLine/\∀p,H1 p=none->Q (.ref p) (upd H1 p (.tup xs))
def GU (t:TA):TE:=λσ H Q=>t σ H λxs H1=>xs.length<=sizeLine/\∀p,H1 p=none->Q (.ref p) (upd H1 p (.lst xs))
theorem jC {x1} (h:JA X es t):JE X (.Tuple es x1 pos) (um t):=.of (by
 have h:=h.to
 intro pins s σ H Q I hq
 refine wpAny_Tuple_spliced (q5 (h pos pins s σ H _ I hq) λus s1 ⟨xs,H1,I1,r,z,q⟩=>⟨by rw[<-r.length];exact z,?_⟩)
 have hf:H1 s1.heap.objs.size=none:=I1.hok.fresh (Nat.le_refl _)
 refine⟨.ref s1.heap.objs.size,upd H1 s1.heap.objs.size (.tup xs),I1.laid (t':=s1.toks) (λb u e=>Heap.get?_push_of_some _ e) (Nat.le_refl _) ?_,rfl,q _ hf⟩
 exact⟨z,us,r,⟨_,Heap.get?_push_size _ rfl,rfl,_,rfl⟩⟩)
theorem jD (h:JA X es t):JE X (.List es pos) (GU t):=.of (by
 have h:=h.to
 intro pins s σ H Q I hq
 refine wpAny_List_spliced (q5 (h pos pins s σ H _ I hq) λus s1 ⟨xs,H1,I1,r,z,q⟩=>⟨by rw[<-r.length];exact z,?_⟩)
 have hf:H1 s1.heap.objs.size=none:=I1.hok.fresh (Nat.le_refl _)
 refine⟨.ref s1.heap.objs.size,upd H1 s1.heap.objs.size (.lst xs),I1.laid (t':=s1.toks) (λb u e=>Heap.get?_push_of_some _ e) (Nat.le_refl _) ?_,rfl,q _ hf⟩
 exact⟨z,us,0,r,Heap.get?_push_size _ rfl⟩)
end
abbrev Sp:=List V->Hp->VK->XK->Prop
abbrev XB:=List Env->Hp->Shared->XK->Value->Shared->Prop
structure Uy (P:Program) (w:World) (K:PySem.W.Frag) (mg:Str->Option Value) (base:Heap) (A:Around) (outer:List Env) (s:Shared) (H:Hp):Prop where
 frames:A.frames=some outer
 mod:Mod K mg base
 bs:∀b o,base.get? b=some o->s.heap.get? b=some o/\H b=none
 bsz:base.objs.size<=s.heap.objs.size
 funs:s.heap.FunFrames base outer
 frf:∀b∈zD outer,H b=none
 hok:Jk P w H s.heap
 bare:AllBare s.gens
def CE (outer:List Env) (P:Program) (w:World) (H:Hp) (s:Shared) (Q:VK) (u:Value) (s':Shared):Prop:=
 ∃v H',s'.os=s.os/\AllBare s'.gens/\Un (zD outer) [] H H' s.heap s'.heap/\Jk P w H' s'.heap/\qK v u/\Q v H'
def CR (CX:XB) (outer:List Env) (P:Program) (w:World) (H:Hp) (s:Shared) (Q:VK) (E:XK) (r:Result) (s':Shared):Prop:=
 match r with
 | .ok (.ret u)=>CE outer P w H s Q u s'
 | .ok _=>False
 | .error e=>CX outer H s E e s'
structure qm (P:Program) (w:World) (K:PySem.W.Frag) (mg:Str->Option Value) (base:Heap) (CX:XB) (k:Nat) (f:Addr) (fd:FuncData) (ps:List Str) (sp:Sp):Prop where
 len:∀vs H Q E,sp vs H Q E->vs.length=ps.length
 run:∀(A:Around) (outer:List Env) (s:Shared) (H:Hp) (args:Args) (us:List Value) (vs:List V) (Q:VK) (E:XK),qW k A->Uy P w K mg base A outer s H->BindsTo s fd args (ps.zip us)->qD vs us->sp vs H Q E->
   codeAny (model P w) A (.call (.ref f) args) (CR CX outer P w H s Q E) s
theorem Uy.make {P:Program} {w:World} {K:PySem.W.Frag} {mg:Str->Option Value} {base:Heap} {A:Around} {outer:List Env} {s:Shared} {H:Hp} (e:Uy P w K mg base A outer s H) (C:Addr) (us:List Value) (kw:List (Str×Value)):
   Uy P w K mg base (A.under (.builtin "type.__call__" ⟨.ref C::us,kw⟩)) outer s H:=⟨by first | exact e.frames | (simpa [Around.under,Code.envs,Code.isFrame,pushEnvs] using e.frames),e.mod,e.bs,e.bsz,e.funs,e.frf,e.hok,e.bare⟩
section
variable {X:Cx} {pins:List (Addr×Obj)} {σ:St} {H:Hp} {s s':Shared}
theorem qx.env0 (I:qx X pins σ H s):Uy X.prog X.w X.K X.mg X.base X.A X.stack s H:=
 ⟨I.ok.frames,I.ok.mod,I.bs,Nat.le_trans I.ok.bsz I.sz,I.stack,I.stkFree,I.hok,I.bare⟩
theorem qx.after {Q:VK} {u:Value} (I:qx X pins σ H s) (h:CE X.stack X.prog X.w H s Q u s'):EP X pins σ Q u s':=by
 obtain⟨v,H',os,bare,un,hok,r,q⟩:=h
 obtain⟨hh,g,d,t,os'⟩:=s'
 obtain rfl:os'=s.os:=os
 exact⟨v,H',I.call (h':=hh) (g':=g) (d':=d) (t':=t) (ch:=[]) un hok bare (λb z=>absurd z (by simp)),r,q⟩
end
def zj (sp:Sp) (dvs:List V) (E:XK) (t:TA):TE:=λσ H Q=>t σ H λvs H1=>sp (vs++dvs) H1 Q E
def Y9 (C:Addr) (m:Str) (sp:Sp) (dvs:List V) (E:XK) (ta:TE) (t:TA):TE:=λσ H Q=>ta σ H λx H1=>∃a dx fs,x=.ref a/\H1 a=some (.ins C dx fs)/\fs.lookup m=none/\
 t σ H1 λvs H2=>sp (x::(vs++dvs)) H2 Q E
def NF (C:Addr) (sp:Sp) (dvs:List V) (E:XK) (t:TA):TE:=λσ H Q=>t σ H λvs H1=>∀x dx,H1 x=none->H1 dx=none->dx≠x->
 sp (.ref x::(vs++dvs)) (upd (upd H1 dx (.own x)) x (.ins C dx [])) (λv H2=>v=.non/\Q (.ref x) H2) E
def jx (K:PySem.W.Frag) (fd:FuncData) (ps:List Str) (ds:List Value):Prop:=
 ∀(s:Shared) (us:List Value),K.In s.heap->(us++ds).length=ps.length->BindsTo s fd ⟨us,[]⟩ (ps.zip (us++ds))
theorem jx.all {K:PySem.W.Frag} {fd:FuncData} {ps:List Str} (h:∀us:List Value,us.length=ps.length->bindArgs fd ⟨us,[]⟩=pure (ps.zip us)):jx K fd ps []:=λs us _ hl=>by
 rw[List.append_nil]at hl ⊢
 exact .of_eq (h us hl)
def Ql (CX:XB) (X:Cx) (E:XK):Prop:=∀(pins:List (Addr×Obj)) (σ:St) (H:Hp) (s:Shared) (e:Value) (s':Shared),qx X pins σ H s->CX X.stack H s E e s'->X.xe e s'
section
variable {X:Cx} {CX:XB} {k:Nat} {f C:Addr} {fd:FuncData} {ps:List Str} {sp:Sp} {dvs:List V} {ds:List Value} {E:XK} {x m:Str} {p pos apos:Pos} {e o:Expr} {es:List Expr} {ta:TE} {t:TA}
theorem Zm {pins:List (Addr×Obj)} {σ:St} {H:Hp} {s:Shared} {Q:VK} {us:List Value} {vs:List V} (F:qm X.prog X.w X.K X.mg X.base CX k f fd ps sp) (hr:qW k X.A) (hb:jx X.K fd ps ds) (hd:qD dvs ds) (hx:Ql CX X E)
   (I:qx X pins σ H s) (r:qD vs us) (h:sp (vs++dvs) H Q E):wpAny (model X.prog X.w) X.A (call (.ref f) us) (EP X pins σ Q) X.xe s:=by
 have r2:qD (vs++dvs) (us++ds):=r.append hd
 have hl:(us++ds).length=ps.length:=by rw[<-r2.length];exact F.len _ _ _ _ h
 refine wpAny_call (codeAny_mono (F.run X.A X.stack s H ⟨us,[]⟩ (us++ds) (vs++dvs) Q E hr I.env0 (hb s us I.kIn hl) r2 h) λr s' hq=>?_)
 cases r with
 | error e=>exact hx pins σ H s e s' I hq
 | ok fl=>
   cases fl with
   | ret u=>exact I.after hq
   | next=>exact False.elim hq
   | brk=>exact False.elim hq
   | cont=>exact False.elim hq
theorem vf (F:qm X.prog X.w X.K X.mg X.base CX k f fd ps sp) (hr:qW k X.A) (hg:Gl X x) (hm:X.mg x=some (.ref f)) (hk:PySem.W.keepIn X.K (.ref f)=true) (hb:jx X.K fd ps ds) (hd:qD dvs ds) (hx:Ql CX X E)
   (ha:PA X (e::es) t) (hdb:(x==("__debug__":Str))=false:=by decide) (he:starEach (e::es) X.env=(false,eval e X.env)::starEach es X.env:=by rfl) (hpl:(backTo pos (starEach es X.env)).any (·.1)=false:=by rfl):
   PE X (.Call (.Name x p) (e::es) [] pos) (zj sp dvs E t):=by
 intro pins s σ H Q I h
 refine wpAny_Call_Name_kw (zS I hg hm ?_ hdb)
 refine PySem.W.callWith_K (h₀:=X.base) I.ok.mod.kin hk (q5 (ha pos pins s σ H _ I h) λus s1 ⟨vs,H1,I1,r,q⟩=>⟨I1.kIn,?_⟩) he hpl
 exact Zm F hr hb hd hx I1 r q
theorem u8 {pl:Sem Bool} (he:PE X o ta) (c:z7 X.K C) (hm:Y3 X.K C m f) (F:qm X.prog X.w X.K X.mg X.base CX k f fd ps sp) (hr:qW k X.A) (hb:jx X.K fd ps ds) (hd:qD dvs ds) (hx:Ql CX X E) (ha:PA X (e::es) t)
   (hst:starEach (e::es) X.env=(false,eval e X.env)::starEach es X.env:=by rfl) (hpl:(backTo pos (starEach es X.env)).any (·.1)=false:=by rfl)
   (ht:eval (.Call (.Attribute o m apos) (e::es) [] pos) X.env=(do
     let ov <-eval o X.env
     standAt apos.atName
     let (f,first) <-holding [ov] (getMethod ov m pl)
     callWith pos f first (backTo pos (starEach (e::es) X.env)) (backToKw pos (keywordEach [] X.env))):=by rfl):
   PE X (.Call (.Attribute o m apos) (e::es) [] pos) (Y9 C m sp dvs E ta t):=by
 intro pins s σ H Q I h
 refine PySem.W.methodCall_KW (pl:=pl) (q5 (he pins s σ H _ I h) λu s1 ⟨x,H1,I1,rx,a,dx,fs,ex,ea,l,q⟩=>?_) ht
 subst ex
 obtain rfl:u=Value.ref a:=rx
 refine Qk I1 ea c hm l ?_
 refine PySem.W.callWith_K (first:=[.ref a]) (h₀:=X.base) I.ok.mod.kin hm.kp (q5 (ha pos pins s1 σ H1 _ I1 q) λus s2 ⟨vs,H2,I2,r,q2⟩=>⟨I2.kIn,?_⟩) hst hpl
 exact Zm (us:=.ref a::us) (vs:=.ref a::vs) F hr hb hd hx I2 (.cons rfl r) q2
theorem KD {pl:Sem Bool} (he:JE X o ta) (c:z7 X.K C) (hm:Y3 X.K C m f) (F:qm X.prog X.w X.K X.mg X.base CX k f fd ps sp) (hr:qW k X.A) (hb:jx X.K fd ps ds) (hd:qD dvs ds) (hx:Ql CX X E) (ha:JA X (e::es) t) (hst:starEach (e::es) X.env=(false,eval e X.env)::starEach es X.env:=by rfl) (hpl:(backTo pos (starEach es X.env)).any (·.1)=false:=by rfl) (ht:eval (.Call (.Attribute o m apos) (e::es) [] pos) X.env=(do
     let ov <-eval o X.env
     standAt apos.atName
     let (f,first) <-holding [ov] (getMethod ov m pl)
     callWith pos f first (backTo pos (starEach (e::es) X.env)) (backToKw pos (keywordEach [] X.env))):=by rfl):JE X (.Call (.Attribute o m apos) (e::es) [] pos) (Y9 C m sp dvs E ta t):=.of (u8 he.to c hm F hr hb hd hx ha.to hst hpl ht)
theorem xj {pl:Sem Bool} (he:PE X o ta) (c:z7 X.K C) (hm:Y3 X.K C m f) (F:qm X.prog X.w X.K X.mg X.base CX k f fd ps sp) (hr:qW k X.A) (hb:jx X.K fd ps ds) (hd:qD dvs ds) (hx:Ql CX X E)
   (ht:eval (.Call (.Attribute o m apos) [] [] pos) X.env=(do
     let ov <-eval o X.env
     standAt apos.atName
     let (f,first) <-holding [ov] (getMethod ov m pl)
     callWith pos f first (backTo pos (starEach [] X.env)) (backToKw pos (keywordEach [] X.env))):=by rfl):
   PE X (.Call (.Attribute o m apos) [] [] pos) (Y9 C m sp dvs E ta Zd):=by
 intro pins s σ H Q I h
 refine PySem.W.methodCall_KW (pl:=pl) (q5 (he pins s σ H _ I h) λu s1 ⟨x,H1,I1,rx,a,dx,fs,ex,ea,l,q⟩=>?_) ht
 subst ex
 obtain rfl:u=Value.ref a:=rx
 refine Qk I1 ea c hm l ?_
 exact PySem.W.callWith_K0 (first:=[.ref a]) I1.kIn hm.kp (Zm (us:=[.ref a]) (vs:=[.ref a]) F hr hb hd hx I1 (.cons rfl .nil) q)
theorem wc {pl:Sem Bool} (he:JE X o ta) (c:z7 X.K C) (hm:Y3 X.K C m f) (F:qm X.prog X.w X.K X.mg X.base CX k f fd ps sp) (hr:qW k X.A) (hb:jx X.K fd ps ds) (hd:qD dvs ds) (hx:Ql CX X E) (ht:eval (.Call (.Attribute o m apos) [] [] pos) X.env=(do
     let ov <-eval o X.env
     standAt apos.atName
     let (f,first) <-holding [ov] (getMethod ov m pl)
     callWith pos f first (backTo pos (starEach [] X.env)) (backToKw pos (keywordEach [] X.env))):=by rfl):JE X (.Call (.Attribute o m apos) [] [] pos) (Y9 C m sp dvs E ta Zd):=.of (xj he.to c hm F hr hb hd hx ht)
structure Mk (K:PySem.W.Frag) (C f:Addr):Prop where
 makes:PySem.W.makesIn K C=true
 init:PySem.W.findIn K (.ref C) "__init__"=some (some (.ref f))
 fn:PySem.W.isFn K (.ref f)=true
 kp:PySem.W.keepIn K (.ref C)=true
theorem y2 {pins:List (Addr×Obj)} {σ:St} {H:Hp} {s:Shared} {Q:VK} {us:List Value} {vs:List V} (M:Mk X.K C f) (F:qm X.prog X.w X.K X.mg X.base CX k f fd ps sp) (hr:qW (k+1) X.A) (hb:jx X.K fd ps ds) (hd:qD dvs ds)
   (hx:Ql CX X E) (I:qx X pins σ H s) (r:qD vs us)
   (h:∀x dx,H x=none->H dx=none->dx≠x->sp (.ref x::(vs++dvs)) (upd (upd H dx (.own x)) x (.ins C dx [])) (λv H2=>v=.non/\Q (.ref x) H2) E):
   wpAny (model X.prog X.w) X.A (call (.ref C) us) (EP X pins σ Q) X.xe s:=by
 have hq:=h (s.heap.objs.size+1) s.heap.objs.size (I.hok.fresh (Nat.le_succ _)) (I.hok.fresh (Nat.le_refl _)) (Nat.ne_of_lt (Nat.lt_succ_self _))
 have I2:=qx.made (C:=C) I
 have r2:qD (V.ref (s.heap.objs.size+1)::(vs++dvs)) (Value.ref (s.heap.objs.size+1)::(us++ds)):=.cons rfl (r.append hd)
 have hl:(Value.ref (s.heap.objs.size+1)::us++ds).length=ps.length:=by
   have e:=r2.length
   rw[F.len _ _ _ _ hq]at e
   exact e.symm
 refine wpAny_call (xS (f:=f) I.kIn M.makes M.init (beq_iff_eq.mp M.fn) (codeAny_mono (F.run _ X.stack _ _ ⟨Value.ref (s.heap.objs.size+1)::us,[]⟩ (Value.ref (s.heap.objs.size+1)::(us++ds)) _ _ E (hr.make C us [])
   (I2.env0.make C us []) (hb _ (Value.ref (s.heap.objs.size+1)::us) I2.kIn hl) r2 hq) λr s' hq'=>?_))
 cases r with
 | error e=>exact hx pins σ _ _ e s' I2 hq'
 | ok fl=>
   cases fl with
   | ret u=>
     obtain⟨v,H',I3,rv,ev,q3⟩:=I2.after hq'
     subst ev
     exact⟨rv,⟨V.ref (s.heap.objs.size+1),H',I3,rfl,q3⟩⟩
   | next=>exact False.elim hq'
   | brk=>exact False.elim hq'
   | cont=>exact False.elim hq'
theorem Jq (M:Mk X.K C f) (F:qm X.prog X.w X.K X.mg X.base CX k f fd ps sp) (hr:qW (k+1) X.A) (hg:Gl X x) (hm:X.mg x=some (.ref C)) (hb:jx X.K fd ps ds) (hd:qD dvs ds) (hx:Ql CX X E) (ha:JA X (e::es) t) (hdb:(x==("__debug__":Str))=false:=by decide) (he:starEach (e::es) X.env=(false,eval e X.env)::starEach es X.env:=by rfl) (hpl:(backTo pos (starEach es X.env)).any (·.1)=false:=by rfl):JE X (.Call (.Name x p) (e::es) [] pos) (NF C sp dvs E t):=.of (by
 have ha:=ha.to
 intro pins s σ H Q I h
 refine wpAny_Call_Name_kw (zS I hg hm ?_ hdb)
 refine PySem.W.callWith_K (h₀:=X.base) I.ok.mod.kin M.kp (q5 (ha pos pins s σ H _ I h) λus s1 ⟨vs,H1,I1,r,q⟩=>⟨I1.kIn,?_⟩) he hpl
 exact y2 M F hr hb hd hx I1 r q)
end
section
variable {X:Cx} {CX:XB} {k:Nat} {f C:Addr} {fd:FuncData} {ps ks:List Str} {sp:Sp} {E:XK} {x m:Str} {p pos apos kpos:Pos} {e o:Expr} {es:List Expr} {kws:List Keyword} {te ta:TE} {t tk:TA} {nm:Option Str}
structure qaB (K:PySem.W.Frag) (fd:FuncData) (ps ks:List Str) (g:List Value->List Value->List Value) (gV:List V->List V->List V):Prop where
 to:∀(s:Shared) (us ws:List Value),K.In s.heap->(g us ws).length=ps.length->BindsTo s fd ⟨us,ks.zip ws⟩ (ps.zip (g us ws))
 rel:∀{vs:List V} {us:List Value} {zs:List V} {ws:List Value},qD vs us->qD zs ws->qD (gV vs zs) (g us ws)
variable {g:List Value->List Value->List Value} {gV:List V->List V->List V}
end
structure qr (N P:List Str) (sc:Scope):Prop where
 kind:sc.kind=.function
 co:sc.isCoroutine=false
 gen:sc.isGenerator=false
 nd:N.Nodup
 pre:N.take P.length=P
 par:∀x∈P,sc.names.lookup x=some .local\/sc.names.lookup x=some .cell
 nofree:∀y∈sc.names,y.2≠.free
theorem Xu {kindOf:Str->Option NameKind} {x:Str}:∀{binds:List (Str×Value)} {m:Str->Option Value},(∀v,(x,v)∉binds)->bindL kindOf binds m x=m x
 | [],_,_=>rfl
 | (n,v)::r,m,h=>by
   unfold bindL
   rw[Xu λw hw=>h w (List.mem_cons_of_mem _ hw)]
   split
   . have:x≠n:=by rintro rfl;exact h v List.mem_cons_self
     simp [this]
   . rfl
theorem Xw {kindOf:Str->Option NameKind} {x:Str}:∀{binds:List (Str×Value)} {m:Str->Option Value},(∀v,(x,v)∉binds)->bindC kindOf binds m x=m x
 | [],_,_=>rfl
 | (n,v)::r,m,h=>by
   unfold bindC
   rw[Xw λw hw=>h w (List.mem_cons_of_mem _ hw)]
   split
   . rfl
   . have:x≠n:=by rintro rfl;exact h v List.mem_cons_self
     simp [this]
theorem Xv {kindOf:Str->Option NameKind} {x:Str} {v:Value}:∀{P:List Str} {vs:List Value} {i:Nat} {m:Str->Option Value},P.Nodup->P[i]?=some x->vs[i]?=some v->kindOf x=some .local->
   bindL kindOf (P.zip vs) m x=some v
 | [],_,_,_,_,h,_,_=>by simp at h
 | _::_,[],_,_,_,_,h,_=>by simp at h
 | p::P,w::vs,0,m,nd,h1,h2,hk=>by
   simp at h1 h2;subst h1;subst h2
   show bindL kindOf ((p,w)::P.zip vs) m p=_
   unfold bindL
   rw[Xu λv hv=>(List.nodup_cons.mp nd).1 (List.of_mem_zip hv).1,if_pos hk]
   simp
 | p::P,w::vs,i+1,m,nd,h1,h2,hk=>by
   show bindL kindOf ((p,w)::P.zip vs) m x=_
   unfold bindL
   exact Xv (i:=i) (List.nodup_cons.mp nd).2 (by simpa using h1) (by simpa using h2) hk
theorem Xx {kindOf:Str->Option NameKind} {x:Str} {v:Value}:∀{P:List Str} {vs:List Value} {i:Nat} {m:Str->Option Value},P.Nodup->P[i]?=some x->vs[i]?=some v->kindOf x≠some .local->
   bindC kindOf (P.zip vs) m x=some v
 | [],_,_,_,_,h,_,_=>by simp at h
 | _::_,[],_,_,_,_,h,_=>by simp at h
 | p::P,w::vs,0,m,nd,h1,h2,hk=>by
   simp at h1 h2;subst h1;subst h2
   show bindC kindOf ((p,w)::P.zip vs) m p=_
   unfold bindC
   rw[Xw λv hv=>(List.nodup_cons.mp nd).1 (List.of_mem_zip hv).1,if_neg hk]
   simp
 | p::P,w::vs,i+1,m,nd,h1,h2,hk=>by
   show bindC kindOf ((p,w)::P.zip vs) m x=_
   unfold bindC
   exact Xx (i:=i) (List.nodup_cons.mp nd).2 (by simpa using h1) (by simpa using h2) hk
def Zh (N:List Str) (vs:List V):St:=vs.map some++List.replicate (N.length - vs.length) none
def Zp (CX:XB) (P:Program) (w:World) (K:PySem.W.Frag) (mg:Str->Option Value) (base:Heap) (N:List Str) (qual:Str) (scope:Scope) (f:Addr) (cd:Value) (A:Around) (outer:List Env) (s:Shared) (H:Hp) (E:XK):Cx where
 prog:=P
 w:=w
 K:=K
 mg:=mg
 base:=base
 A:=A.deeper (envOfC qual scope s.heap.objs.size f cd)
 N:=N
 s₀:=s
 H₀:=H
 env:=envOfC qual scope s.heap.objs.size f cd
 outer:=outer
 stack:=envOfC qual scope s.heap.objs.size f cd::outer
 ex:=[]
 calm:=true
 fn:=λ_=>true
 pn:=[]
 xe:=λe s'=>wpAny (model P w) (A.deeper (envOfC qual scope s.heap.objs.size f cd)) (leaving (envOfC qual scope s.heap.objs.size f cd) e) (λ_ s''=>CX outer H s E e s'') (λe' s''=>CX outer H s E e' s'') s'
theorem Vz {sc:Scope} {n:Nat} {x:Str} (h:sc.names.lookup x=some .cell):∃c,(cellsFrom n sc.names []).lookup x=some c:=by
 have q:=PySem.W.cellsFrom_some sc.names n [] (.inl h)
 exact Option.isSome_iff_exists.mp q
theorem ya {CX:XB} {P:Program} {w:World} {K:PySem.W.Frag} {mg:Str->Option Value} {base:Heap} {N ps:List Str} {qual:Str} {scope:Scope} {f:Addr} {cd:Value} {A:Around} {outer:List Env} {s s1:Shared} {H:Hp} {E:XK} {us:List Value} {vs:List V}
   (S:qr N ps scope) (hd:A.handled=none) (e0:Uy P w K mg base A outer s H) (hl:vs.length=ps.length) (r:qD vs us)
   (x:InCallC s s.heap.objs.size (bindL (envOfC qual scope s.heap.objs.size f cd).kindOf (ps.zip us) λ_=>none) (cellsFrom (s.heap.objs.size+1) scope.names []) (bindC (envOfC qual scope s.heap.objs.size f cd).kindOf (ps.zip us) λ_=>none) s1):
   qx (Zp CX P w K mg base N qual scope f cd A outer s H E) [] (Zh N vs) H s1:=by
 have hpl:ps.length<=N.length:=by have:=congrArg List.length S.pre;rw[List.length_take]at this;omega
 obtain⟨h1,tk,rfl,hk⟩:=x.done
 have noA:∀b:Addr,b∉(Zp CX P w K mg base N qual scope f cd A outer s H E).ex:=λb z=>absurd (show b∈([]:List Addr) from z) (by simp)
 refine⟨⟨e0.mod,S.kind,rfl,rfl,Nat.le_refl _,λy z c h1 h2=>?_,λy hy=>?_,λy c _ h=>?_,λ_=>hd,Around.frames_deeper e0.frames,.inr ⟨rfl,rfl⟩,λb z=>absurd z (noA b),e0.bs,e0.bsz,λb _ _=>noA b,λb z=>absurd z (noA b),e0.funs,e0.frf⟩,
   rfl,e0.bare,Un.kept hk,⟨_,x.toInCall.ns,λi y v h1 h2 h3=>?_⟩,λy c h=>⟨_,x.cell y c h⟩,e0.hok.fresh (Nat.le_refl _),λy c h=>?_,λp hp=>absurd (show p∈([]:List (Addr×Obj)) from hp) (by simp),e0.hok.kept hk,?_⟩
 . exact name_of_addr x.apart (PySem.mem_of_lookup h1) (PySem.mem_of_lookup h2)
 . have hy:scope.names.lookup y=some .cell\/scope.names.lookup y=some .free:=hy
   rcases hy with hy | hy
   . exact Vz hy
   . exact absurd rfl (S.nofree _ (PySem.mem_of_lookup hy))
 . exact Nat.le_of_lt (x.above y c (PySem.mem_of_lookup h))
 . have hi:i < vs.length:=by
     unfold Zh at h2
     by_cases hi:i < vs.length
     . exact hi
     . rw[List.getElem?_append_right (by simpa using hi)]at h2
       rw[List.getElem?_replicate]at h2
       split at h2<;>cases h2
   have ha:vs[i]?=some v:=by
     unfold Zh at h2
     rw[List.getElem?_append_left (by simpa using hi),List.getElem?_map]at h2
     cases e:vs[i]? with
     | none=>rw[e]at h2;cases h2
     | some a=>rw[e]at h2;cases h2;rfl
   obtain⟨u,hu,rv⟩:=r.get ha
   have hp:ps[i]?=some y:=by
     rw[<-S.pre,List.getElem?_take_of_lt (by omega)];exact h1
   have ndP:ps.Nodup:=by rw[<-S.pre];exact S.nd.sublist (List.take_sublist _ _)
   refine⟨u,rv,?_⟩
   rcases S.par y (List.mem_of_getElem? hp) with k | k
   . exact .inl ⟨k,Xv ndP hp hu k⟩
   . obtain⟨c,e⟩:=Vz (n:=s.heap.objs.size+1) k
     refine .inr ⟨.inl k,c,e,?_⟩
     have q:=x.cell y c e
     rw[Xx ndP hp hu (by show scope.names.lookup y≠_;rw[k];decide)]at q
     exact q
 . exact e0.hok.fresh (Nat.le_of_lt (x.above y c (PySem.mem_of_lookup h)))
 . unfold Zh
   show _=N.length
   rw[List.length_append,List.length_map,List.length_replicate]
   omega
theorem Gw {CX:XB} {P:Program} {w:World} {K:PySem.W.Frag} {mg:Str->Option Value} {base:Heap} {k:Nat} {f:Addr} {name qual:Str} {params:Arguments} {body:List Stmt} {scope:Scope} {dV kV doc pm cdv ct oc:Value} {an od:Option Addr}
   {osl:Array (Option Value)} {N ps:List Str} {sp:Sp} (lk:K.lookup f=some ⟨oc,od,.func (PySem.W.fnOf name qual params body scope dV kV doc pm an cdv ct),osl⟩) (hcd:PySem.W.codeIn K cdv qual=true) (S:qr N ps scope)
   (len:∀vs H Q E,sp vs H Q E->vs.length=ps.length)
   (hbody:∀(A:Around) (outer:List Env) (s:Shared) (H:Hp) (vs:List V) (Q:VK) (E:XK),qW k (A.deeper (envOfC qual scope s.heap.objs.size f cdv))->sp vs H Q E->
     ∃t,ub (Zp CX P w K mg base N qual scope f cdv A outer s H E) body t/\t {nx:=λ_ H'=>Q .non H',rt:=Q} (Zh N vs) H):
   qm P w K mg base CX (k+1) f (PySem.W.fnOf name qual params body scope dV kV doc pm an cdv ct) ps sp:=by
 refine⟨len,λA outer s H args us vs Q E hr e0 hb r hsp=>?_⟩
 have hl:=len _ _ _ _ hsp
 have KX:K.In s.heap:=e0.mod.kin.keeps λb o e=>(e0.bs b o e).1
 have lim:s.heap.NoLimit:=e0.mod.nolimit.keeps λb o e=>(e0.bs b o e).1
 have hkind:∀y∈ps.zip us,scope.names.lookup y.1=some .local\/(scope.names.lookup y.1=some .cell/\((cellsFrom (s.heap.objs.size+1) scope.names []).lookup y.1).isSome=true):=λ⟨n,v⟩ hy=>by
   rcases S.par n (List.of_mem_zip hy).1 with q | q
   . exact .inl q
   . exact .inr ⟨q,PySem.W.cellsFrom_some _ _ _ (.inl q)⟩
 refine codeAny_call_function hr.depth (KX _ _ lk) rfl S.co S.gen rfl (PySem.W.codeRec_of KX hcd) (hb _ _ _ _ ?_)
 refine wpAny_newFunctionEnv_cells S.kind hkind λenv he s1 x=>?_
 subst he
 refine⟨lim.keeps x.toInCall.keep,codeAny_func ?_⟩
 obtain⟨t,ht,hq⟩:=hbody A outer s H vs Q E (hr.deeper _) hsp
 have I:qx (Zp CX P w K mg base N qual scope f cdv A outer s H E) [] (Zh N vs) H s1:=ya S hr.hd e0 hl r x
 refine wpAny_mono (ht [] s1 (Zh N vs) H _ I hq) (λfl s' hs=>?_) λe s' hs=>hs
 have fin:∀{σ':St} {H':Hp} {v:V} {u:Value},qx (Zp CX P w K mg base N qual scope f cdv A outer s H E) [] σ' H' s'->qK v u->Q v H'->CE outer P w H s Q u s':=
   λ{σ' H' v u} J rv q=>⟨v,H',J.os,J.bare,J.base,J.hok,rv,q⟩
 cases fl with
 | ret u=>
   obtain⟨v,σ',H',J,rv,q⟩:=hs
   exact fin J rv q
 | next=>
   obtain⟨σ',H',J,q⟩:=hs
   exact fin (v:=V.non) (u:=Value.none) J rfl q
 | brk=>
   obtain⟨_,_,_,q⟩:=hs
   exact False.elim q
 | cont=>
   obtain⟨_,_,_,q⟩:=hs
   exact False.elim q
end L2
namespace L2
open PySem PySem.Spec PyProof.Rows
section
variable {X:Cx} {x:Str} {p pos:Pos} {e:Expr} {es:List Expr} {t:TA} {id T:String} {r:List V->Hp->VK->Prop}
def MT (r:List V->Hp->VK->Prop) (t:TA):TE:=λσ H Q=>t σ H λvs H1=>r vs H1 Q
theorem qA (hc:Qs X (.builtin id) r) (hg:Gl X x) (hm:X.mg x=none) (hv:bootBuiltins x=some (.builtin id)) (ha:JA X (e::es) t) (hn:x≠"__name__":=by decide) (hdb:(x==("__debug__":Str))=false:=by decide) (he:starEach (e::es) X.env=(false,eval e X.env)::starEach es X.env:=by rfl) (hpl:(backTo pos (starEach es X.env)).any (·.1)=false:=by rfl):JE X (.Call (.Name x p) (e::es) [] pos) (MT r t):=.of (by
 have ha:=ha.to
 intro pins s σ H Q I h
 refine wpAny_Call_Name_kw (Q4 I hg hm hv ?_ hn hdb)
 exact PyProof.Rows.callWith_builtin1 (q5 (ha pos pins s σ H _ I h) λus s1 ⟨vs,H1,I1,r1,q1⟩=>hc pins s1 σ H1 vs us Q I1 r1 q1) he hpl)
theorem j4 (hc:Qs X (.type T) r) (hg:Gl X x) (hm:X.mg x=none) (hv:bootBuiltins x=some (.type T)) (ha:JA X (e::es) t) (hn:x≠"__name__":=by decide) (hdb:(x==("__debug__":Str))=false:=by decide) (he:starEach (e::es) X.env=(false,eval e X.env)::starEach es X.env:=by rfl) (hpl:(backTo pos (starEach es X.env)).any (·.1)=false:=by rfl):JE X (.Call (.Name x p) (e::es) [] pos) (MT r t):=.of (by
 have ha:=ha.to
 intro pins s σ H Q I h
 refine wpAny_Call_Name_kw (Q4 I hg hm hv ?_ hn hdb)
 exact PyProof.Rows.callWith_type1 (q5 (ha pos pins s σ H _ I h) λus s1 ⟨vs,H1,I1,r1,q1⟩=>hc pins s1 σ H1 vs us Q I1 r1 q1) he hpl)
end
end L2
namespace HT
open PySem PyProof.Rows
section
open PySem.SeqAt
open PySem.AutoSeq1 (wpAny_loadPart')
open PySem.MeetsSeq PySem.MeetsSeq2 PySem.MeetsSeq3
end
section
variable {prog:Program} {w:World} {A:Around} {E:Value->Shared->Prop} {s:Shared}
def sIx (n d:Nat):Option Int->Nat
 | none=>d
 | some v=>if v < 0 then (v+(n:Int)).toNat else min v.toNat n
theorem sIx_none (n d:Nat):sIx n d none=d:=rfl
theorem sIx_nat (n d k:Nat):sIx n d (some (k:Int))=min k n:=by
 show (if (k:Int) < 0 then ((k:Int)+(n:Int)).toNat else min (k:Int).toNat n)=min k n
 rw[if_neg (by omega),Int.toNat_natCast]
theorem Ro (n d:Nat) (hd:d<=n) (o:Option Int):sIx n d o<=n:=by
 cases o with
 | none=>exact hd
 | some v=>
   show (if v < 0 then (v+(n:Int)).toNat else min v.toNat n)<=n
   by_cases hv:v < 0
   . rw[if_pos hv];omega
   . rw[if_neg hv];exact Nat.min_le_right _ _
theorem vF (v:Int) (n d:Nat):(if v < 0 then max (v+(n:Int)) 0 else min v (n:Int))=((sIx n d (some v):Nat):Int):=by
 show (if v < 0 then max (v+(n:Int)) 0 else min v (n:Int))=(((if v < 0 then (v+(n:Int)).toNat else min v.toNat n):Nat):Int)
 by_cases hv:v < 0
 . simp only[if_pos hv];omega
 . simp only[if_neg hv];omega
theorem Uq (lo hi:Option Int) (n:Nat):Builtin.Slice.sliceAdjust lo hi 1 (n:Int)=(((sIx n 0 lo:Nat):Int),((sIx n n hi:Nat):Int)):=by
 have h1:¬((1:Int) < 0):=by omega
 unfold Builtin.Slice.sliceAdjust
 simp only[h1,if_false]
 refine Prod.ext ?_ ?_
 . cases lo with
   | none=>rfl
   | some v=>exact vF v n 0
 . cases hi with
   | none=>rfl
   | some v=>exact vF v n n
theorem VY (i j:Nat):Builtin.Slice.slicePlaces (i:Int) (j:Int) 1=j - i:=by
 unfold Builtin.Slice.slicePlaces
 have h1:(1:Int) > 0:=by omega
 simp only[h1,if_true,Int.ediv_one]
 split<;>omega
theorem Yd {v:Value} {o:Option Int} {Q:Option Int->Shared->Prop} (p:IsPart v o) (h:Q o s):wpAny (model prog w) A (Builtin.Slice.slicePartIndex v) Q E s:=by
 cases p with
 | none=>exact slicePart_none h
 | int i t=>exact slicePart_int h
theorem Q9 {sl:Addr} {vl vu:Value} {lo hi:Option Int} {n:Nat} {Q:Int×Int×Nat->Shared->Prop} (hs:s.heap.IsSliceOf sl vl vu .none) (pl:IsPart vl lo) (pu:IsPart vu hi)
   (h:Q (((sIx n 0 lo:Nat):Int),1,sIx n n hi - sIx n 0 lo) s):wpAny (model prog w) A (Builtin.Slice.sliceApplied (.ref sl) (pure (n:Int))) Q E s:=by
 obtain⟨os,hos,hcs,hds⟩:=id hs
 unfold Builtin.Slice.sliceApplied Builtin.Slice.sliceFields
 refine wpAny_bind (wpAny_bind (wpAny_field hos hds (x:=vl) rfl (wpAny_bind (wpAny_field hos hds (x:=vu) rfl (wpAny_bind (wpAny_field hos hds (x:=.none) rfl (wpAny_pure ?_)))))))
 refine wpAny_bind (slicePart_none ?_)
 show wpAny _ _ (if ((1:Int)==0)=true then _ else _) _ _ s
 rw[if_neg (by decide)]
 refine wpAny_bind (Yd pl (wpAny_bind (Yd pu (wpAny_bind (wpAny_pure ?_)))))
 show wpAny _ _ (match Builtin.Slice.sliceAdjust lo hi 1 (n:Int) with | (lo,hi)=>pure (lo,(1:Int),Builtin.Slice.slicePlaces lo hi 1)) _ _ s
 rw[Uq lo hi n]
 show wpAny _ _ (pure (((sIx n 0 lo:Nat):Int),(1:Int),Builtin.Slice.slicePlaces ((sIx n 0 lo:Nat):Int) ((sIx n n hi:Nat):Int) 1)) _ _ s
 rw[VY]
 exact wpAny_pure h
theorem xh (xs:Array Value) (i k:Nat):((List.range k).filterMap λ(m:Nat)=>xs[((i:Int)+(m:Int)*1).toNat]?).toArray=((xs.toList.drop i).take k).toArray:=by
 have e:(λ(m:Nat)=>xs[((i:Int)+(m:Int)*1).toNat]?)=λm=>xs[i+m]?:=by
   funext m
   have:((i:Int)+(m:Int)*1).toNat=i+m:=by omega
   rw[this]
 rw[e]
 have:=pick_run xs i k
 rw[List.filterMap_map]at this
 have e2:((λx=>xs[x]?) ∘ λx=>i+x)=λm=>xs[i+m]?:=rfl
 rw[e2]at this
 rw[this]
theorem getItem_tuple_cut {t sl:Addr} {items:Array Value} {vl vu:Value} {lo hi:Option Int} {Q:Value->Shared->Prop} (ht:IsTup s.heap t items) (hs:s.heap.IsSliceOf sl vl vu .none) (pl:IsPart vl lo) (pu:IsPart vu hi)
   (hw:¬(sIx items.size 0 lo=0/\sIx items.size items.size hi=items.size))
   (h:Q (.ref s.heap.objs.size) {s with heap:=s.heap.push {cls:=.type "tuple",data:=.seq ((items.toList.drop (sIx items.size 0 lo)).take (sIx items.size items.size hi - sIx items.size 0 lo)).toArray}})
   (hsz:items.size<=sizeLine):wpAny (model prog w) A (getItem (.ref t) (.ref sl)) Q E s:=by
 have htake:sizeOk (.seq ((items.toList.drop (sIx items.size 0 lo)).take (sIx items.size items.size hi - sIx items.size 0 lo)).toArray):=by
   show ((items.toList.drop (sIx items.size 0 lo)).take (sIx items.size items.size hi - sIx items.size 0 lo)).toArray.size<=sizeLine
   rw[List.size_toArray,List.length_take,List.length_drop,Array.length_toList]
   omega
 have hj:sIx items.size items.size hi<=items.size:=Ro _ _ (Nat.le_refl _) hi
 obtain⟨os,hos,hcs,hds⟩:=id hs
 have hTs:s.TypeIs (.ref sl) "slice":=⟨os,hos,hcs⟩
 unfold getItem
 try with_reducible refine wpAny_holding ?_
 first | refine wpAny_bind (wpAny_pure ?_) | skip
 refine wpAny_bind (wpAny_sequenceKey ht.typeIs (by decide) ?_)
 refine wpAny_bind (wpAny_callSpecial?_slot (name:=Str.ofString "__getitem__") ht.typeIs PyProof.Rows.slot_tuple_getitem
   (wpAny_call_entry PyProof.Rows.slot_tuple_getitem ht.typeIs entry_tuple_getitem ?_ (args_tuple_getitem _ _)))
 show wpAny _ _ (Builtin.Tuple.tupleItemsOf (.ref t) >>= _) _ _ s
 refine wpAny_bind (tupleItemsOf_ ht ?_)
 refine wpAny_bind (wpAny_typeOf hTs ?_)
 rw[if_pos (by decide)]
 refine wpAny_bind (Q9 hs pl pu ?_)
 have hno:¬((((sIx items.size 0 lo:Nat):Int)==0&&(1:Int)==1&&(sIx items.size items.size hi - sIx items.size 0 lo)==items.size)=true):=by
   intro q
   rw[Bool.and_eq_true,Bool.and_eq_true]at q
   have q1:((sIx items.size 0 lo:Nat):Int)=0:=eq_of_beq q.1.1
   have q2:sIx items.size items.size hi - sIx items.size 0 lo=items.size:=eq_of_beq q.2
   exact hw ⟨by omega,by omega⟩
 show wpAny _ _ (if (((sIx items.size 0 lo:Nat):Int)==0&&(1:Int)==1&&(sIx items.size items.size hi - sIx items.size 0 lo)==items.size)=true then _ else _) _ _ s
 rw[if_neg hno,xh]
 first
   | exact wpAny_bind (m:=Builtin.Tuple.tupleExact _) (wpAny_newObj_type (wpAny_pure ⟨_,rfl,wpAny_pure h⟩) htake)
   | exact wpAny_bind (m:=Builtin.Tuple.tupleExact _) (wpAny_newObj_type (wpAny_bind (wpAny_pure (wpAny_pure ⟨_,rfl,wpAny_pure h⟩))) htake)
   | exact wpAny_bind (wpAny_bind (m:=Builtin.Tuple.tupleExact _) (wpAny_newObj_type (wpAny_pure (wpAny_pure ⟨_,rfl,wpAny_pure h⟩)) htake))
   | exact wpAny_bind (wpAny_bind (m:=Builtin.Tuple.tupleExact _) (wpAny_newObj_type (wpAny_pure ⟨_,rfl,wpAny_pure h⟩) htake))
end
end HT
namespace L2
open PySem PySem.Spec PyProof.Rows
abbrev TO:=St->Hp->(Option Int->Hp->Prop)->Prop
def PO (X:Cx) (e:Option Expr) (t:TO):Prop:=
 ∀(pins:List (Addr×Obj)) (s:Shared) (σ:St) (H:Hp) (Q:Option Int->Hp->Prop),qx X pins σ H s->t σ H Q->
   wpAny (model X.prog X.w) X.A (evalPart e X.env) (λu s'=>∃o H',qx X pins σ H' s'/\IsPart u o/\Q o H') X.xe s
@[irreducible] def JO (X:Cx) (e:Option Expr) (t:TO):Prop:=PO X e t
theorem JO.of {X:Cx} {e:Option Expr} {t:TO} (h:PO X e t):JO X e t:=by unfold JO;exact h
theorem JO.to {X:Cx} {e:Option Expr} {t:TO} (h:JO X e t):PO X e t:=by unfold JO at h;exact h
def uo:TO:=λ_ H Q=>Q none H
def ND (t:TE):TO:=λσ H Q=>t σ H λx H1=>∃i,x=.int i/\Q (some i) H1
theorem Ub {ns:List Int}:∀{us:List Value},qD (ns.map V.int) us->IntsAre us ns:=by
 induction ns with
 | nil=>intro us r;rw[List.map_nil]at r;cases r;exact .nil
 | cons n ns ih=>
   intro us r
   rw[List.map_cons]at r
   cases r with
   | cons r1 r2=>
     obtain⟨t,e⟩:=r1
     subst e
     exact .cons n t (ih r2)
section
variable {X:Cx} {e:Expr} {te:TE} {lo hi:Option Expr} {tl th:TO} {pos p2:Pos}
theorem ZK:JO X none uo:=.of (by
 intro pins s σ H Q I h
 rw[evalPart_none]
 exact wpAny_pure ⟨none,H,I,.none,h⟩)
theorem ZJ (h:JE X e te):JO X (some e) (ND te):=.of (by
 have h:=h.to
 intro pins s σ H Q I hw
 rw[evalPart_some]
 refine q5 (h pins s σ H _ I hw) λu s1 ⟨x,H1,I1,r1,q1⟩=>?_
 obtain⟨i,rfl,q⟩:=q1
 obtain⟨t,rfl⟩:=r1
 exact⟨some i,H1,I1,.int i t,q⟩)
def Mt (X:Cx) (r:V->Option Int->Option Int->Hp->VK->Prop):Prop:=
 ∀(pins:List (Addr×Obj)) (s:Shared) (σ:St) (H:Hp) (x:V) (v vl vu:Value) (lo hi:Option Int) (sl:Addr) (Q:VK),qx X pins σ H s->qK x v->s.heap.IsSliceOf sl vl vu .none->IsPart vl lo->IsPart vu hi->r x lo hi H Q->
   ∃T id,typeLookup (.type T) "__getitem__"=pure (some (.builtin id))/\s.TypeIs v T/\wpAny (model X.prog X.w) X.A (getItem v (.ref sl)) (EP X pins σ Q) X.xe s
def tSl (r:V->Option Int->Option Int->Hp->VK->Prop) (te:TE) (tl th:TO):TE:=λσ H Q=>te σ H λx H1=>tl σ H1 λl H2=>th σ H2 λu H3=>r x l u H3 Q
theorem JR {r:V->Option Int->Option Int->Hp->VK->Prop} (hr:Mt X r) (he:JE X e te) (hl:JO X lo tl) (hu:JO X hi th):JE X (.Subscript e (.Slice lo hi none p2) pos) (tSl r te tl th):=.of (by
 have he:=he.to
 have hl:=hl.to
 have hu:=hu.to
 intro pins s σ H Q I h
 refine Subscript_ (q5 (he pins s σ H _ I h) λv s1 ⟨x,H1,I1,r1,q1⟩=>?_)
 refine wpAny_Slice (q5 (hl pins s1 σ H1 _ I1 q1) λvl s2 ⟨l,H2,I2,pl,q2⟩=>q5 (hu pins s2 σ H2 _ I2 q2) λvu s3 ⟨u,H3,I3,pu,q3⟩=>?_)
 rw[evalPart_none]
 refine wpAny_pure ?_
 have I4:qx X pins σ H3 {s3 with heap:=s3.heap.push {cls:=.type "slice",data:=.fields #[vl,vu,.none]}}:=I3.kept (t':=s3.toks) λb ob q=>Heap.get?_push_of_some _ q
 obtain⟨T,id,hT,ht,hg⟩:=hr pins {s3 with heap:=s3.heap.push {cls:=.type "slice",data:=.fields #[vl,vu,.none]}} σ H3 x v vl vu l u s3.heap.objs.size Q I4 r1 (Heap.IsSliceOf.new ..) pl pu q3
 show wpAny (model X.prog X.w) X.A (subscriptTail e (.Slice lo hi none p2) v (.ref s3.heap.objs.size)) (EP X pins σ Q) X.xe {s3 with heap:=s3.heap.push {cls:=.type "slice",data:=.fields #[vl,vu,.none]}}
 exact tail_any (ops:=[.ref s3.heap.objs.size,v]) ht hT hg (by with_unfolding_all rfl))
def Y0 (xs:List V) (lo hi:Option Int):List V:=(xs.drop (HT.sIx xs.length 0 lo)).take (HT.sIx xs.length xs.length hi - HT.sIx xs.length 0 lo)
theorem zx (xs:List V) (lo hi:Option Int):(Y0 xs lo hi).length<=xs.length:=by
 unfold Y0
 rw[List.length_take,List.length_drop]
 omega
def NY (K:PySem.W.Frag):V->Option Int->Option Int->Hp->VK->Prop:=λx lo hi H Q=>∃a xs,x=.ref a/\SqT K H a xs/\
 ¬(HT.sIx xs.length 0 lo=0/\HT.sIx xs.length xs.length hi=xs.length)/\∀p,H p=none->Q (.ref p) (upd H p (.tup (Y0 xs lo hi)))
theorem Ra:Mt X (NY X.K):=by
 intro pins s σ H x v vl vu lo hi sl Q I rx hs pl pu h
 obtain⟨a,xs,rfl,hx,hw,q⟩:=h
 cases rx
 obtain⟨its,r,ht,hz⟩:=I.tuple hx
 have hlen:its.toArray.size=xs.length:=by rw[List.size_toArray];exact r.length.symm
 refine⟨"tuple",_,PyProof.Rows.slot_tuple_getitem.lookup,ht.typeIs,?_⟩
 refine HT.getItem_tuple_cut ht hs pl pu (by rw[hlen];exact hw) ?_ (by rw[hlen];exact hz)
 rw[hlen]
 refine⟨.ref s.heap.objs.size,_,I.laid (t':=s.toks) (o:=.tup (Y0 xs lo hi)) (λb ob q=>Heap.get?_push_of_some _ q) (Nat.le_refl _) ?_,rfl,q _ (I.hok.fresh (Nat.le_refl _))⟩
 exact⟨Nat.le_trans (zx xs lo hi) hz,_,(r.drop (HT.sIx xs.length 0 lo)).take (HT.sIx xs.length xs.length hi - HT.sIx xs.length 0 lo),IsTup.new _ _⟩
end
end L2
namespace L2
open PySem PySem.Spec PyProof.Rows
def Nx (n:Nat) (i:Int):Option Nat:=if 0<=i then (if i < n then some i.toNat else none) else if -(n:Int)<=i then some (i+n).toNat else none
def vM {α:Type} (xs:List α) (i:Int):Option α:=(Nx xs.length i).bind λj=>xs[j]?
theorem KF {n:Nat} {i:Int} {j:Nat} (h:Nx n i=some j):seqIndex? i n=some j/\j < n/\-(n:Int)<=i/\i < n:=by
 unfold Nx at h
 by_cases h0:0<=i
 . rw[if_pos h0]at h
   by_cases h1:i < n
   . rw[if_pos h1]at h
     have e:i.toNat=j:=Option.some.inj h
     exact⟨by rw[seqIndex_of h0 h1,e],by omega,by omega,h1⟩
   . rw[if_neg h1]at h;cases h
 . rw[if_neg h0]at h
   by_cases h1:-(n:Int)<=i
   . rw[if_pos h1]at h
     have e:(i+n).toNat=j:=Option.some.inj h
     exact⟨by rw[seqIndex_neg (by omega) h1,e],by omega,h1,by omega⟩
   . rw[if_neg h1]at h;cases h
theorem WH {α:Type} {xs:List α} {i:Int} {v:α} (h:vM xs i=some v):∃j,seqIndex? i xs.length=some j/\xs[j]?=some v/\j < xs.length/\-(xs.length:Int)<=i/\i < xs.length:=by
 unfold vM at h
 cases e:Nx xs.length i with
 | none=>rw[e]at h;cases h
 | some j=>
   rw[e]at h
   obtain⟨h1,h2,h3,h4⟩:=KF e
   exact⟨j,h1,h,h2,h3,h4⟩
theorem Zb {α:Type} {xs:List α} {j:Nat} {v:α} (h:xs[j]?=some v):vM xs (j:Int)=some v:=by
 have hj:j < xs.length:=(List.getElem?_eq_some_iff.mp h).1
 have e:Nx xs.length (j:Int)=some j:=by
   unfold Nx
   rw[if_pos (by omega),if_pos (by omega)];simp
 unfold vM;rw[e];exact h
def K2 (b:Expr):Prop:=∀o i,subscripted b false o i=operate [o,i] (getItem o i)
def MK (X:Cx) (r:R2):Prop:=
 ∀(value slice:Expr) (pins:List (Addr×Obj)) (s:Shared) (σ:St) (H:Hp) (x y:V) (v u:Value) (Q:VK),qx X pins σ H s->qK x v->qK y u->r x y H Q->
   subscripted slice false v u=operate [v,u] (getItem v u)->wpAny (model X.prog X.w) X.A (subscriptTail value slice v u) (EP X pins σ Q) X.xe s
def Mw (X:Cx) (id:String) (r:V->List V->Hp->VK->Prop):Prop:=
 ∀(pins:List (Addr×Obj)) (s:Shared) (σ:St) (H:Hp) (x:V) (xs:List V) (v:Value) (us:List Value) (Q:VK),qx X pins σ H s->qK x v->qD xs us->r x xs H Q->
   wpAny (model X.prog X.w) X.A (call (.builtin id) (v::us)) (EP X pins σ Q) X.xe s
section
variable {X:Cx} {a b:Expr} {ta tb:TE} {pos:Pos}
theorem qZ {r:R2} (hr:MK X r) (ha:JE X a ta) (hb:JE X b tb) (hs:K2 b):JE X (.Subscript a b pos) (zH r ta tb):=.of (by
 have ha:=ha.to
 have hb:=hb.to
 intro pins s σ H Q I h
 exact Subscript_ (Nf ha hb I h λv u s2 x y H2 I2 rx ry q=>hr a b pins s2 σ H2 x y v u Q I2 rx ry q (hs _ _)))
def Rq (K:PySem.W.Frag):R2:=λx y H Q=>∃p xs i v,x=.ref p/\y=.int i/\SqL K H p xs/\vM xs i=some v/\Q v H
def W8 (K:PySem.W.Frag):R2:=λx y H Q=>∃p xs i v,x=.ref p/\y=.int i/\SqT K H p xs/\vM xs i=some v/\Q v H
def M9:R2:=λx y H Q=>∃z i c,x=.str z/\y=.int i/\z.length<=sizeLine/\vM z.cps.toList i=some c/\Q (.str ⟨#[c]⟩) H
theorem jY:MK X (Rq X.K):=by
 intro value slice pins s σ H x y v u Q I rx ry h hs
 obtain⟨p,xs,i,z,rfl,rfl,hq,he,q⟩:=h
 cases rx
 obtain⟨t,rfl⟩:=ry
 obtain⟨its,r,pl,hz⟩:=I.list hq
 obtain⟨j,h1,h2,h3,h4,h5⟩:=WH he
 obtain⟨w,ew,rw'⟩:=r.get h2
 have hl:=r.length
 have hn:=YB
 have fin:EP X pins σ Q w s:=⟨z,H,I,rw',q⟩
 by_cases h0:0<=i
 . have hj:i.toNat=j:=by
     rw[seqIndex_of h0 h5]at h1
     exact Option.some.inj h1
   exact item_listR pl.isList h0 (by omega) (by rw[hj];simpa using ew) fin hs
 . have hj:(i+(its.toArray.size:Int)).toNat=j:=by
     rw[seqIndex_neg (by omega) h4]at h1
     rw[List.size_toArray,<-hl]
     exact Option.some.inj h1
   exact subscriptTail_builtinR (x:=w) pl.isList.typeIs slot_list_getitem.lookup
     (wpAny_getItem_list_neg (Q:=λr s'=>r=w/\EP X pins σ Q r s') pl.isList (by omega) (by rw[List.size_toArray]<;>omega) (by omega) (by rw[hj];simpa using ew) ⟨rfl,fin⟩) hs
theorem jn:MK X (W8 X.K):=by
 intro value slice pins s σ H x y v u Q I rx ry h hs
 obtain⟨p,xs,i,z,rfl,rfl,hq,he,q⟩:=h
 cases rx
 obtain⟨t,rfl⟩:=ry
 obtain⟨its,r,pl,hz⟩:=I.tuple hq
 obtain⟨j,h1,h2,h3,h4,h5⟩:=WH he
 obtain⟨w,ew,rw'⟩:=r.get h2
 have hl:=r.length
 have hn:=YB
 have fin:EP X pins σ Q w s:=⟨z,H,I,rw',q⟩
 exact subscriptTail_builtinR (x:=w) pl.typeIs slot_tuple_getitem.lookup
   (getItem_tuple (j:=j) (Q:=λr s'=>r=w/\EP X pins σ Q r s') pl (by omega) (by omega) (by rw[List.size_toArray,<-hl];exact h1) (by simpa using ew) ⟨rfl,fin⟩) hs
theorem wq:MK X M9:=by
 intro value slice pins s σ H x y v u Q I rx ry h hs
 obtain⟨z,i,c,rfl,rfl,hz,he,q⟩:=h
 obtain⟨t,rfl⟩:=rx
 obtain⟨t',rfl⟩:=ry
 obtain⟨j,h1,h2,h3,h4,h5⟩:=WH he
 have hl:z.cps.toList.length=z.length:=by simp [Str.length]
 rw[hl]at h1 h4 h5
 have hn:=YB
 exact tail_any (typeIs_str s z t) slot_str_getitem.lookup (getItem_str (c:=c) (by
   have e1:decide (i < -(2^63:Int))=false:=decide_eq_false (by omega)
   have e2:decide (i ≥ 2^63)=false:=decide_eq_false (by omega)
   rw[e1,e2,Bool.or_false]) (by rw[h1];simpa using h2) ⟨.str ⟨#[c]⟩,H,I.tok _,⟨_,rfl⟩,q⟩) hs
theorem X7 (lo hi:Option Int) (n:Nat):(sliceBounds lo hi none n).1=((HT.sIx n 0 lo:Nat):Int)/\(sliceBounds lo hi none n).2.1=((HT.sIx n n hi:Nat):Int)/\(sliceBounds lo hi none n).2.2=1:=by
 refine⟨?_,?_,rfl⟩
 . cases lo with
   | none=>simp [sliceBounds,HT.sIx]
   | some i=>
     simp only[sliceBounds,HT.sIx,Option.getD_none,show (1:Int) > 0 by decide,if_true]
     by_cases h:i < 0
     . simp only[h,if_true]<;>omega
     . simp only[h,if_false]<;>omega
 . cases hi with
   | none=>simp [sliceBounds,HT.sIx]
   | some i=>
     simp only[sliceBounds,HT.sIx,Option.getD_none,show (1:Int) > 0 by decide,if_true]
     by_cases h:i < 0
     . simp only[h,if_true]<;>omega
     . simp only[h,if_false]<;>omega
theorem YX (its:List Value) (lo hi:Option Int):slicePick its.toArray lo hi none=((its.drop (HT.sIx its.length 0 lo)).take (HT.sIx its.length its.length hi - HT.sIx its.length 0 lo)).toArray:=by
 obtain⟨h1,h2,h3⟩:=X7 lo hi its.toArray.size
 unfold slicePick
 rw[h1,h2,h3]
 simp only[sliceRange_one,pick_run,List.size_toArray]<;>rfl
def M8 (K:PySem.W.Frag):V->Option Int->Option Int->Hp->VK->Prop:=λx lo hi H Q=>∃a xs,x=.ref a/\SqL K H a xs/\∀p,H p=none->Q (.ref p) (upd H p (.lst (Y0 xs lo hi)))
theorem U0:Mt X (M8 X.K):=by
 intro pins s σ H x v vl vu lo hi sl Q I rx hs pl pu h
 obtain⟨a,xs,rfl,hx,q⟩:=h
 cases rx
 obtain⟨its,r,ht,hz⟩:=I.list hx
 have hlen:=r.length
 refine⟨"list",_,slot_list_getitem.lookup,ht.isList.typeIs,?_⟩
 refine wpAny_getItem_list_slice ht.isList hs pl pu .none (by simp) ?_ (by rw[List.size_toArray]<;>omega)
 rw[YX,<-hlen]
 refine⟨.ref s.heap.objs.size,_,I.laid (t':=s.toks) (o:=.lst (Y0 xs lo hi)) (λb ob q=>Heap.get?_push_of_some _ q) (Nat.le_refl _) ?_,rfl,q _ (I.hok.fresh (Nat.le_refl _))⟩
 exact⟨Nat.le_trans (zx xs lo hi) hz,_,0,(r.drop (HT.sIx xs.length 0 lo)).take (HT.sIx xs.length xs.length hi - HT.sIx xs.length 0 lo),Heap.get?_push_size _ rfl⟩
def JB:V->Bool
 | .non=>true
 | .bl _=>true
 | .int _=>true
 | .str _=>true
 | _=>false
def yu:V->V->Bool
 | .non,.non=>true
 | .bl a,.bl b=>a==b
 | .bl a,.int b=>(if a then 1 else 0)==b
 | .int a,.bl b=>a==(if b then 1 else 0)
 | .int a,.int b=>a==b
 | .str a,.str b=>a==b
 | _,_=>false
theorem Na {A:Around} {s:Shared} {y x:V} {u v:Value} (ry:qK y u) (rx:qK x v) (fy:JB y=true) (fx:JB x=true):SeqAt.EqAt A s u v (yu y x):=by
 cases y with
 | non=>
   cases ry
   cases x with
   | non=>cases rx;exact SeqAt.EqAt.same _
   | bl b=>cases rx;exact SeqAt.EqAt.none_bool b
   | int b=>obtain⟨t,rfl⟩:=rx;exact SeqAt.EqAt.none_int b t
   | str b=>obtain⟨t,rfl⟩:=rx;exact SeqAt.EqAt.none_str b t
   | _=>exact absurd (show false=true from fx) Bool.false_ne_true
 | bl a=>
   cases ry
   cases x with
   | non=>cases rx;exact SeqAt.EqAt.bool_none a
   | bl b=>cases rx;exact SeqAt.EqAt.bool_bool a b
   | int b=>obtain⟨t,rfl⟩:=rx;exact SeqAt.EqAt.bool_int a b t
   | str b=>obtain⟨t,rfl⟩:=rx;exact SeqAt.EqAt.bool_str a b t
   | _=>exact absurd (show false=true from fx) Bool.false_ne_true
 | int a=>
   obtain⟨t',rfl⟩:=ry
   cases x with
   | non=>cases rx;exact SeqAt.EqAt.int_none a t'
   | bl b=>cases rx;exact SeqAt.EqAt.int_bool a t' b
   | int b=>obtain⟨t,rfl⟩:=rx;exact SeqAt.EqAt.int_int a t' b t
   | str b=>obtain⟨t,rfl⟩:=rx;exact SeqAt.EqAt.int_str a t' b t
   | _=>exact absurd (show false=true from fx) Bool.false_ne_true
 | str a=>
   obtain⟨t',rfl⟩:=ry
   cases x with
   | non=>cases rx;exact SeqAt.EqAt.str_none a t'
   | bl b=>cases rx;exact SeqAt.EqAt.str_bool a t' b
   | int b=>obtain⟨t,rfl⟩:=rx;exact SeqAt.EqAt.str_int a t' b t
   | str b=>obtain⟨t,rfl⟩:=rx;exact SeqAt.EqAt.str_str a t' b t
   | _=>exact absurd (show false=true from fx) Bool.false_ne_true
 | _=>exact absurd (show false=true from fy) Bool.false_ne_true
def Ui (x:V) (u:Value):Bool:=match u with
 | .none=>yu .non x
 | .bool b=>yu (.bl b) x
 | .int i _=>yu (.int i) x
 | .str z _=>yu (.str z) x
 | _=>false
theorem wL {x y:V} {u:Value} (r:qK y u) (f:JB y=true):Ui x u=yu y x:=by
 cases y with
 | non=>cases r;rfl
 | bl b=>cases r;rfl
 | int i=>obtain⟨t,rfl⟩:=r;rfl
 | str z=>obtain⟨t,rfl⟩:=r;rfl
 | _=>exact absurd (show false=true from f) Bool.false_ne_true
theorem ZS {x:V}:∀{xs:List V} {us:List Value},qD xs us->xs.all JB=true->us.any (Ui x)=xs.any λy=>yu y x
 | _,_,.nil,_=>rfl
 | y::xs,u::us,.cons r t,f=>by
   rw[List.all_cons,Bool.and_eq_true]at f
   rw[List.any_cons,List.any_cons,wL r f.1,ZS t f.2]
theorem JQ {A:Around} {s:Shared} {x:V} {v:Value} (rx:qK x v) (fx:JB x=true):∀{xs:List V} {us:List Value},qD xs us->xs.all JB=true->∀u∈us,SeqAt.EqAt A s u v (Ui x u)
 | _,_,.nil,_=>λu hu=>by cases hu
 | y::xs,u::us,.cons r t,f=>λu' hu=>by
   rw[List.all_cons,Bool.and_eq_true]at f
   rcases List.mem_cons.mp hu with rfl | hu
   . rw[wL r f.1];exact Na r rx f.1 fx
   . exact JQ rx fx t f.2 u' hu
def ZM (x:V) (xs:List V):Bool:=xs.any λy=>yu y x
def Nw (K:PySem.W.Frag) (neg:Bool):R2:=λx y H Q=>∃p xs,y=.ref p/\(SqL K H p xs\/SqT K H p xs)/\JB x=true/\xs.all JB=true/\Q (.bl (if neg then !ZM x xs else ZM x xs)) H
theorem Jf:J0 X (compareOp .In) (Nw X.K false):=by
 intro pins s σ H x y v u Q I rx ry h
 obtain⟨p,xs,rfl,hq,fx,fs,q⟩:=h
 cases ry
 rcases hq with hq | hq
 . obtain⟨its,r,pl,hz⟩:=I.list hq
   refine SeqAt.in_listAt (Ui x) pl.isList (λw hw=>JQ rx fx r fs w (by simpa using hw)) ⟨.bl _,H,I,rfl,?_⟩
   rw[show its.toArray.any (Ui x)=its.any (Ui x) by simp,ZS r fs]
   exact q
 . obtain⟨its,r,pl,hz⟩:=I.tuple hq
   refine SeqAt.in_tupleAt (Ui x) pl (λw hw=>JQ rx fx r fs w (by simpa using hw)) ⟨.bl _,H,I,rfl,?_⟩
   rw[show its.toArray.any (Ui x)=its.any (Ui x) by simp,ZS r fs]
   exact q
theorem QB:J0 X (compareOp .NotIn) (Nw X.K true):=by
 intro pins s σ H x y v u Q I rx ry h
 obtain⟨p,xs,rfl,hq,fx,fs,q⟩:=h
 cases ry
 rcases hq with hq | hq
 . obtain⟨its,r,pl,hz⟩:=I.list hq
   refine SeqAt.notIn_listAt (Ui x) pl.isList (λw hw=>JQ rx fx r fs w (by simpa using hw)) ⟨.bl _,H,I,rfl,?_⟩
   rw[show its.toArray.any (Ui x)=its.any (Ui x) by simp,ZS r fs]
   exact q
 . obtain⟨its,r,pl,hz⟩:=I.tuple hq
   refine SeqAt.notIn_tupleAt (Ui x) pl (λw hw=>JQ rx fx r fs w (by simpa using hw)) ⟨.bl _,H,I,rfl,?_⟩
   rw[show its.toArray.any (Ui x)=its.any (Ui x) by simp,ZS r fs]
   exact q
theorem qP:Qs X (.builtin "len") (λxs H Q=>∃p ys,xs=[.ref p]/\(SqL X.K H p ys\/SqT X.K H p ys)/\Q (.int ys.length) H):=by
 intro pins s σ H xs us Q I r h
 obtain⟨p,ys,rfl,hq,q⟩:=h
 obtain⟨u,rfl,rx⟩:=Q7 r
 cases rx
 have hn:=YB
 rcases hq with hq | hq
 . obtain⟨its,r',pl,hz⟩:=I.list hq
   have hlen:=r'.length
   exact Calls.call_len_list pl.isList (by simp only[List.size_toArray]<;>omega) ⟨.int ys.length,H,I.tok _,⟨s.toks+1,by rw[List.size_toArray,hlen]⟩,q⟩
 . obtain⟨its,r',pl,hz⟩:=I.tuple hq
   have hlen:=r'.length
   exact len_tuple pl (by simp only[List.size_toArray]<;>omega) ⟨.int ys.length,H,I.tok _,⟨s.toks+1,by rw[List.size_toArray,hlen]⟩,q⟩
theorem Jv:Qs X (.builtin "len") (λxs H Q=>∃z,xs=[.str z]/\z.length<=sizeLine/\Q (.int z.length) H):=by
 intro pins s σ H xs us Q I r h
 obtain⟨z,rfl,hz,q⟩:=h
 obtain⟨u,rfl,t,rfl⟩:=Q7 r
 have hn:=YB
 exact len_str (by omega) ⟨.int z.length,H,I.tok _,⟨_,rfl⟩,q⟩
theorem Ju:Qs X (.type "list") (λxs H Q=>∃p ys,xs=[.ref p]/\(SqL X.K H p ys\/SqT X.K H p ys)/\∀l,H l=none->Q (.ref l) (upd H l (.lst ys))):=by
 intro pins s σ H xs us Q I r h
 obtain⟨p,ys,rfl,hq,q⟩:=h
 obtain⟨u,rfl,rx⟩:=Q7 r
 cases rx
 have fin:∀(its:List Value),qD ys its->ys.length<=sizeLine->∀(h':Heap) (c':Nat),(∀b o',s.heap.get? b=some o'->h'.get? b=some o')->
     h'.get? s.heap.objs.size=some {cls:=.type "list",dict:=none,data:=.seq its.toArray c',slots:=#[]}->EP X pins σ Q (.ref s.heap.objs.size) {s with heap:=h'}:=λits r' hz h' c' kp e=>
   ⟨.ref s.heap.objs.size,_,I.laid (t':=s.toks) kp (Nat.le_refl _) (show qG X.prog X.w _ h' _ (.lst ys) from⟨hz,its,c',r',e⟩),rfl,q _ (I.hok.fresh (Nat.le_refl _))⟩
 rcases hq with hq | hq
 . obtain⟨its,r',pl,hz⟩:=I.list hq
   have hlen:=r'.length
   obtain⟨o,ho,hc,n,hd⟩:=pl.isList
   exact call_list_seq p (.inl rfl) ho hc hd (λh' c' kp e=>fin its r' hz h' c' kp e) (by simp only[List.size_toArray]<;>omega)
 . obtain⟨its,r',pl,hz⟩:=I.tuple hq
   have hlen:=r'.length
   obtain⟨o,ho,hc,n,hd⟩:=pl
   exact call_list_seq p (.inr rfl) ho hc hd (λh' c' kp e=>fin its r' hz h' c' kp e) (by simp only[List.size_toArray]<;>omega)
theorem Y1:Qs X (.type "tuple") (λxs H Q=>∃p ys,xs=[.ref p]/\((SqL X.K H p ys/\∀l,H l=none->Q (.ref l) (upd H l (.tup ys)))\/(SqT X.K H p ys/\Q (.ref p) H))):=by
 intro pins s σ H xs us Q I r h
 obtain⟨p,ys,rfl,h⟩:=h
 obtain⟨u,rfl,rx⟩:=Q7 r
 cases rx
 rcases h with ⟨hq,q⟩ | ⟨hq,q⟩
 . obtain⟨its,r',pl,hz⟩:=I.list hq
   have hlen:=r'.length
   refine call_tuple_list pl.isList (λh' kp=>?_) (by simp only[List.size_toArray]<;>omega)
   have I1:qx X pins σ H {s with heap:=h'}:=I.kept (t':=s.toks) kp
   have I2:qx X pins σ (upd H h'.objs.size (.tup ys)) {s with heap:=h'.push {cls:=.type "tuple",data:=.seq its.toArray}}:=
     I1.laid (t':=s.toks) (λb o e=>Heap.get?_push_of_some _ e) (Nat.le_refl _) (show qG X.prog X.w _ _ _ (.tup ys) from⟨hz,its,r',IsTup.new _ _⟩)
   exact⟨.ref h'.objs.size,_,I2,rfl,q _ (I1.hok.fresh (Nat.le_refl _))⟩
 . obtain⟨its,r',pl,hz⟩:=I.tuple hq
   exact call_tuple_same pl ⟨.ref p,H,I,rfl,q⟩
def ML (K:PySem.W.Frag) (T:String) (x:V) (H:Hp):Prop:=match x with
 | .str _=>T="str"
 | .int _=>T="int"
 | .ref p=>(T="list"/\∃xs,SqL K H p xs)\/(T="tuple"/\∃o,K.lookup p=some o/\o.cls=.type "tuple"/\o.dict=none)\/
     (T="dict"/\((∃kvs,H p=some (.dK kvs))\/∃kvs,H p=some (.dT kvs)))\/(T="set"/\∃S n,H p=some (.set S n))
 | _=>False
theorem yv {pins:List (Addr×Obj)} {σ:St} {H:Hp} {s:Shared} {T:String} {x:V} {v:Value} (I:qx X pins σ H s) (r:qK x v) (ty:ML X.K T x H):
   s.TypeIs v T/\∀a,v=.ref a->∃ob,s.heap.get? a=some ob/\ob.dict=none:=by
 cases x with
 | str z=>
   obtain⟨t,rfl⟩:=r
   cases (show T="str" from ty)
   exact⟨typeIs_str s z t,λ_ e=>nomatch e⟩
 | int i=>
   obtain⟨t,rfl⟩:=r
   cases (show T="int" from ty)
   exact⟨typeIs_int s i t,λ_ e=>nomatch e⟩
 | ref p=>
   cases r
   rcases ty with ⟨rfl,xs,hq⟩ | ⟨rfl,o,hk,hc,hd⟩ | ⟨rfl,hk⟩ | ⟨rfl,S,n,hk⟩
   . obtain⟨its,_,pl,_⟩:=I.list hq
     refine⟨pl.isList.typeIs,λa e=>?_⟩
     cases e
     obtain⟨o,n,e,c,hd,_⟩:=pl
     exact⟨o,e,hd⟩
   . refine⟨⟨o,I.kIn p o hk,hc⟩,λa e=>?_⟩
     cases e
     exact⟨o,I.kIn _ o hk,hd⟩
   . have z:∃o,s.heap.get? p=some o/\o.ExactDict:=by
       rcases hk with ⟨kvs,hk⟩ | ⟨kvs,hk⟩
       . obtain⟨_,_,_,_,o,_,_,e,ex,_⟩:=I.hok p _ hk
         exact⟨o,e,ex⟩
       . obtain⟨_,_,_,_,o,_,_,e,ex,_⟩:=I.hok p _ hk
         exact⟨o,e,ex⟩
     obtain⟨o,e,ex⟩:=z
     refine⟨⟨o,e,ex.1⟩,λa e2=>?_⟩
     cases e2
     exact⟨o,e,ex.2.1⟩
   . obtain⟨o,_,_,_,e,ex,_⟩:=I.hok p _ hk
     refine⟨⟨o,e,ex.1⟩,λa e2=>?_⟩
     cases e2
     exact⟨o,e,ex.2.1⟩
 | _=>exact False.elim ty
def MU (K:PySem.W.Frag) (T:String) (r:V->List V->Hp->VK->Prop) (to:TE):TE:=λσ H Q=>to σ H λx H1=>ML K T x H1/\r x [] H1 Q
def tBM (K:PySem.W.Frag) (T:String) (r:V->List V->Hp->VK->Prop) (to:TE) (t:TA):TE:=λσ H Q=>to σ H λx H1=>ML K T x H1/\t σ H1 λxs H2=>r x xs H2 Q
variable {o e:Expr} {es:List Expr} {to:TE} {t:TA} {name:Str} {apos cpos:Pos} {T id:String} {r:V->List V->Hp->VK->Prop}
theorem wp (pa:PlainAttrs T) (slot:Slot T name id) (hty:typeOf (.builtin id)=pure (.type "method_descriptor")) (hm:Mw X id r) (ho:JE X o to) (hbase:attributeBase o name X.env (eval o X.env)=eval o X.env:=by rfl) (hline:(apos.endLine==cpos.line)=true:=by rfl):JE X (.Call (.Attribute o name apos) [] [] cpos) (MU X.K T r to):=.of (by
 have ho:=ho.to
 intro pins s σ H Q I h
 refine wpAny_Call_method0_late hbase hline (q5 (ho pins s σ H _ I h) λv s1 ⟨x,H1,I1,r1,ty,q1⟩=>?_)
 obtain⟨h1,h2⟩:=yv I1 r1 ty
 exact⟨T,id,pa,slot,hty,h1,h2,Calls.callWith_builtin rfl (PySem.evalArgs_none (hm pins s1 σ H1 x [] v [] Q I1 r1 .nil q1))⟩)
theorem N4 (pa:PlainAttrs T) (slot:Slot T name id) (hty:typeOf (.builtin id)=pure (.type "method_descriptor")) (hm:Mw X id r) (ho:PE X o to) (ha:PA X (e::es) t)
   (hbase:attributeBase o name X.env (eval o X.env)=eval o X.env:=by rfl)
   (hfew:((backTo cpos (starEach (e::es) X.env)).all (λx=> !x.1)&&(backToKw cpos (keywordEach [] X.env)).all (λx=>x.1.isSome)
     &&decide ((e::es).length+([]:List Keyword).length+(if ([]:List Keyword).isEmpty then 0 else 1) < 30))=true:=by rfl)
   (hline:(apos.endLine==cpos.line)=true:=by rfl) (hs:starEach (e::es) X.env=(false,eval e X.env)::starEach es X.env:=by rfl) (hplain:(backTo cpos (starEach es X.env)).any (·.1)=false:=by rfl):
   PE X (.Call (.Attribute o name apos) (e::es) [] cpos) (tBM X.K T r to t):=by
 intro pins s σ H Q I h
 refine wpAny_Call_method_late hbase hfew hline rfl (q5 (ho pins s σ H _ I h) λv s1 ⟨x,H1,I1,r1,ty,q1⟩=>?_)
 obtain⟨h1,h2⟩:=yv I1 r1 ty
 refine⟨T,id,pa,slot,hty,h1,h2,?_⟩
 have hA:=ha cpos pins s1 σ H1 _ I1 q1
 rw[hs]at hA ⊢
 refine Calls.callWith_builtin (by show (false || (backTo cpos (starEach es X.env)).any (·.1))=false;rw[hplain]<;>rfl) (Calls.evalArgs_plain ?_)
 exact q5 hA λus s2 ⟨vs,H2,I2,r2,q2⟩=>hm pins s2 σ H2 x vs v us Q I2 r1 r2 q2
theorem Vo (pa:PlainAttrs T) (slot:Slot T name id) (hty:typeOf (.builtin id)=pure (.type "method_descriptor")) (hm:Mw X id r) (ho:JE X o to) (ha:JA X (e::es) t) (hbase:attributeBase o name X.env (eval o X.env)=eval o X.env:=by rfl) (hfew:((backTo cpos (starEach (e::es) X.env)).all (λx=> !x.1)&&(backToKw cpos (keywordEach [] X.env)).all (λx=>x.1.isSome)
     &&decide ((e::es).length+([]:List Keyword).length+(if ([]:List Keyword).isEmpty then 0 else 1) < 30))=true:=by rfl) (hline:(apos.endLine==cpos.line)=true:=by rfl) (hs:starEach (e::es) X.env=(false,eval e X.env)::starEach es X.env:=by rfl) (hplain:(backTo cpos (starEach es X.env)).any (·.1)=false:=by rfl):JE X (.Call (.Attribute o name apos) (e::es) [] cpos) (tBM X.K T r to t):=.of (N4 pa slot hty hm ho.to ha.to hbase hfew hline hs hplain)
end
end L2
namespace L2
open PySem PySem.Spec PyProof.Rows
def MtM (X:Cx) (id:String) (r:V->List V->Hp->VK->Prop):Prop:=
 ∀(pins:List (Addr×Obj)) (s:Shared) (σ:St) (H:Hp) (x:V) (xs:List V) (v:Value) (us:List Value) (Q:VK),qx X pins σ H s->qK x v->qD xs us->r x xs H Q->
   wpAny (model X.prog X.w) X.A (call (.builtin id) (v::us)) (EP X pins σ Q) X.xe s
theorem qD.one:∀{x:V} {us:List Value},qD [x] us->∃u,us=[u]/\qK x u
 | _,_,.cons r .nil=>⟨_,rfl,r⟩
theorem qD.zero:∀{us:List Value},qD [] us->us=[]
 | _,.nil=>rfl
theorem qD.reverse {xs:List V} {us:List Value} (h:qD xs us):qD xs.reverse us.reverse:=by
 induction h with
 | nil=>exact .nil
 | cons r t ih=>rw[List.reverse_cons,List.reverse_cons];exact qD.append ih (.cons r .nil)
section
variable {X:Cx} {pins:List (Addr×Obj)} {σ:St} {H:Hp} {s:Shared} {l b:Addr} {xs ys zs:List V}
theorem qx.lset {its its':List Value} {n:Nat} {f:Array Value->Array Value} {t':Nat} (I:qx X pins σ H s) (hH:H l=some (.lst xs))
   (e:s.heap.get? l=some {cls:=.type "list",data:=.seq its.toArray n}) (hf:f its.toArray=its'.toArray) (hv:qD ys its') (hz:ys.length<=sizeLine):
   qx X pins σ (upd H l (.lst ys)) {s with heap:=s.heap.update l (Obj.mapSeq f),toks:=t'}:=by
 have q:=PySem.IsL.update e f
 rw[hf]at q
 refine I.write (x:=l) (e:=l) (by rw[hH];exact trivial) (.inl rfl) (λb' u hb hu=>(Heap.get?_update_other s.heap (Obj.mapSeq f) (Ne.symm hb)).trans hu) ⟨_,q⟩ ?_
 exact⟨hz,its',_,hv,q⟩
theorem qx.lstM (I:qx X pins σ H s) (hH:H l=some (.lst xs)):xs.length<=sizeLine/\∃(its:List Value) (n:Nat),qD xs its/\xs.length=its.length/\s.heap.get? l=some {cls:=.type "list",data:=.seq its.toArray n}:=by
 obtain⟨z,its,n,r,e⟩:=I.hok l _ hH
 exact⟨z,its,n,r,r.length,e⟩
theorem xO {n:Nat} (h:n<=sizeLine):Builtin.List.listTooLong n=false:=by
 unfold Builtin.List.listTooLong
 exact decide_eq_false (by omega)
end
section
variable {X:Cx}
def u6:V->List V->Hp->VK->Prop:=λx vs H Q=>∃l xs y,x=.ref l/\vs=[y]/\H l=some (.lst xs)/\xs.length < sizeLine/\Q .non (upd H l (.lst (xs++[y])))
theorem J7:MtM X "list.append" u6:=by
 intro pins s σ H x vs v us Q I rx rv h
 obtain⟨l,xs,y,rfl,rfl,hH,hz,q⟩:=h
 cases rx
 obtain⟨u,rfl,ru⟩:=rv.one
 obtain⟨z,its,n,r,hl,e⟩:=I.lstM hH
 refine call_meets F.slot_list_append ⟨_,e,rfl⟩ F.entry_list_append (F.args_list_append_2 _ _) (PySem.list_append l its.toArray n u (by rw[List.size_toArray];omega)) ⟨e,?_⟩
 refine⟨.non,_,I.lset (its':=its++[u]) hH e (by simp) (r.append (.cons ru .nil)) ?_,rfl,q⟩
 rw[List.length_append,List.length_singleton]
 omega
def u5:V->List V->Hp->VK->Prop:=λx vs H Q=>∃l b xs zs,x=.ref l/\vs=[.ref b]/\H l=some (.lst xs)/\H b=some (.lst zs)/\xs.length+zs.length<=sizeLine/\Q .non (upd H l (.lst (xs++zs)))
theorem kQ:MtM X "list.extend" u5:=by
 intro pins s σ H x vs v us Q I rx rv h
 obtain⟨l,b,xs,zs,rfl,rfl,hH,hB,hz,q⟩:=h
 cases rx
 obtain⟨u,rfl,ru⟩:=rv.one
 cases ru
 obtain⟨z,its,n,r,hl,e⟩:=I.lstM hH
 obtain⟨z2,its2,n2,r2,hl2,e2⟩:=I.lstM hB
 have hsz:its.toArray.size+its2.toArray.size<=sizeLine:=by rw[List.size_toArray,List.size_toArray];omega
 have hlong:¬(!its.toArray.isEmpty&&Builtin.List.listTooLong (its.toArray.size+its2.toArray.size))=true:=by
   rw[xO hsz,Bool.and_false]
   exact Bool.false_ne_true
 refine call_meets F.slot_list_extend ⟨_,e,rfl⟩ F.entry_list_extend (F.args_list_extend_2 _ _)
   (AutoSeq1.list_extend_list_list_0 l its.toArray n b its2.toArray n2 hlong (by rw[List.size_toArray];omega) (by omega)) ⟨e,e2,?_⟩
 refine⟨.non,_,I.lset (its':=its++its2) hH e (by simp) (r.append r2) ?_,rfl,q⟩
 rw[List.length_append]
 omega
def xa:V->List V->Hp->VK->Prop:=λx vs H Q=>∃l xs,x=.ref l/\vs=[]/\H l=some (.lst xs)/\Q .non (upd H l (.lst xs.reverse))
theorem V6:MtM X "list.reverse" xa:=by
 intro pins s σ H x vs v us Q I rx rv h
 obtain⟨l,xs,rfl,rfl,hH,q⟩:=h
 cases rx
 have hus:=rv.zero
 subst hus
 obtain⟨z,its,n,r,hl,e⟩:=I.lstM hH
 refine call_meets F.slot_list_reverse ⟨_,e,rfl⟩ F.entry_list_reverse (F.args_list_reverse_1 _) (AutoSeq1.list_reverse_list_0 l its.toArray n (by rw[List.size_toArray];omega)) ⟨e,?_⟩
 refine⟨.non,_,I.lset (its':=its.reverse) hH e (by simp) r.reverse ?_,rfl,q⟩
 rw[List.length_reverse]
 omega
end
section
variable {prog:Program} {w:World} {A:Around} {E:Value->Shared->Prop} {s:Shared}
set_option maxRecDepth 100000 in
end
section
variable {X:Cx}
end
end L2
namespace L2
open PySem PySem.Spec PyProof.Rows
section
variable {κ:Type} [DecidableEq κ]
def ja (kvs:List (κ×V)) (k:κ):Option V:=(kvs.find? λkv=>decide (kv.1=k)).map (·.2)
def jA (kvs:List (κ×V)) (k:κ) (v:V):List (κ×V):=
 if (kvs.any λkv=>decide (kv.1=k))=true then kvs.map (λkv=>if kv.1=k then (kv.1,v) else kv) else kvs++[(k,v)]
theorem jk {p:κ×V} {r:List (κ×V)} {k:κ} (e:p.1=k):ja (p::r) k=some p.2:=by simp [ja,List.find?_cons,e]
theorem jl {p:κ×V} {r:List (κ×V)} {k:κ} (e:¬p.1=k):ja (p::r) k=ja r k:=by simp [ja,List.find?_cons,e]
theorem Qo (k:κ):∀kvs:List (κ×V),(kvs.any λkv=>decide (kv.1=k))=(ja kvs k).isSome
 | []=>rfl
 | p::r=>by
   rw[List.any_cons]
   by_cases e:p.1=k
   . simp only[jk e,decide_eq_true e,Bool.true_or,Option.isSome_some]
   . rw[jl e,decide_eq_false e,Bool.false_or];exact Qo k r
theorem WP (k j:κ) (y:V):∀kvs:List (κ×V),ja (kvs.map λkv=>if kv.1=k then (kv.1,y) else kv) j=(ja kvs j).map λx=>if j=k then y else x
 | []=>rfl
 | p::r=>by
   have ih:=WP k j y r
   rw[List.map_cons]
   by_cases h:p.1=k
   . rw[if_pos h]
     by_cases e:p.1=j
     . rw[jk (p:=(p.1,y)) e,jk e,Option.map_some,if_pos (e.symm.trans h)]
     . rw[jl (p:=(p.1,y)) e,jl e,ih]
   . rw[if_neg h]
     by_cases e:p.1=j
     . rw[jk (p:=p) e,jk e,Option.map_some,if_neg (λz=>h (e.trans z))]
     . rw[jl (p:=p) e,jl e,ih]
theorem Y6 (k j:κ) (y:V):∀kvs:List (κ×V),ja kvs k=none->ja (kvs++[(k,y)]) j=if j=k then some y else ja kvs j
 | [],_=>by
   by_cases e:k=j
   . rw[if_pos e.symm];exact jk (p:=(k,y)) e
   . rw[if_neg (λz=>e z.symm)];exact jl (p:=(k,y)) e
 | p::r,hn=>by
   rw[List.cons_append]
   have hk:¬p.1=k:=λz=>by rw[jk z]at hn;cases hn
   rw[jl hk]at hn
   have ih:=Y6 k j y r hn
   by_cases e:p.1=j
   . rw[jk e,jk e,if_neg (λz=>hk (e.trans z))]
   . rw[jl e,jl e,ih]
theorem jS (kvs:List (κ×V)) (k j:κ) (y:V):ja (jA kvs k y) j=if j=k then some y else ja kvs j:=by
 unfold jA
 by_cases a:(kvs.any λkv=>decide (kv.1=k))=true
 . rw[if_pos a,WP]
   rw[Qo]at a
   by_cases e:j=k
   . obtain⟨x,hx⟩:=Option.isSome_iff_exists.mp a
     rw[if_pos e,e,hx,Option.map_some,if_pos rfl]
   . rw[if_neg e]
     cases ja kvs j with
     | none=>rfl
     | some x=>rw[Option.map_some,if_neg e]
 . rw[if_neg a]
   refine Y6 k j y kvs ?_
   rw[Qo]at a
   cases q:ja kvs k with
   | none=>rfl
   | some x=>rw[q]at a;exact(a rfl).elim
theorem QV (kvs:List (κ×V)) (k:κ) (v:V):(jA kvs k v).length<=kvs.length+1:=by
 unfold jA
 split
 . rw[List.length_map];omega
 . rw[List.length_append,List.length_cons,List.length_nil];omega
theorem Je {kvs:List (κ×V)} {k:κ} (v:V) (h:ja kvs k=none):jA kvs k v=kvs++[(k,v)]:=by
 unfold jA
 rw[Qo,h]
 exact if_neg (by decide)
theorem Ji.isSome_eq {o:Option V} {u:Option Value} (r:Ji o u):o.isSome=u.isSome:=by
 cases o with
 | none=>cases u with
   | none=>rfl
   | some _=>exact(show False from r).elim
 | some _=>cases u with
   | none=>exact(show False from r).elim
   | some _=>rfl
theorem Ji.getD {o:Option V} {u:Option Value} {d:V} {d':Value} (r:Ji o u) (rd:qK d d'):qK (o.getD d) (u.getD d'):=by
 cases o with
 | none=>cases u with
   | none=>exact rd
   | some _=>exact(show False from r).elim
 | some _=>cases u with
   | none=>exact(show False from r).elim
   | some _=>exact r
theorem KV.val {kvs:List (κ×V)} {vs:List (κ×Value)} (r:KV kvs vs) (k:κ):Ji (ja kvs k) (valueAt vs k):=by
 unfold KV at r
 induction r with
 | nil=>exact True.intro
 | @cons p q ps qs h t ih=>
   obtain⟨h1,h2⟩:=h
   by_cases e:p.1=k
   . have e':q.1=k:=h1.symm.trans e
     have b:valueAt (q::qs) k=some q.2:=by simp [valueAt,List.find?_cons,e']
     rw[jk e,b];exact h2
   . have e':¬q.1=k:=λz=>e (h1.trans z)
     have b:valueAt (q::qs) k=valueAt qs k:=by simp [valueAt,List.find?_cons,e']
     rw[jl e,b];exact ih
theorem KV.any {kvs:List (κ×V)} {vs:List (κ×Value)} (r:KV kvs vs) (k:κ):(kvs.any λkv=>decide (kv.1=k))=vs.any λkv=>decide (kv.1=k):=by
 unfold KV at r
 induction r with
 | nil=>rfl
 | cons h t ih=>rw[List.any_cons,List.any_cons,ih,h.1]
theorem KV.repl {kvs:List (κ×V)} {vs:List (κ×Value)} (r:KV kvs vs) (k:κ) {y:V} {u:Value} (ry:qK y u):
   KV (kvs.map λkv=>if kv.1=k then (kv.1,y) else kv) (vs.map λkv=>if kv.1=k then (kv.1,u) else kv):=by
 unfold KV at r ⊢
 induction r with
 | nil=>exact .nil
 | @cons p q ps qs h t ih=>
   rw[List.map_cons,List.map_cons]
   refine .cons ?_ ih
   obtain⟨h1,h2⟩:=h
   by_cases e:p.1=k
   . rw[if_pos e,if_pos (h1.symm.trans e)];exact⟨h1,ry⟩
   . rw[if_neg e,if_neg (λz=>e (h1.trans z))];exact⟨h1,h2⟩
theorem KV.put {kvs:List (κ×V)} {vs:List (κ×Value)} (r:KV kvs vs) (k:κ) {y:V} {u:Value} (ry:qK y u):KV (jA kvs k y) (stored vs k u):=by
 unfold jA stored
 rw[r.any k]
 by_cases e:(vs.any λkv=>decide (kv.1=k))=true
 . rw[if_pos e,if_pos e];exact r.repl k ry
 . rw[if_neg e,if_neg e];exact Paired.snoc r ⟨rfl,ry⟩
theorem KV.length {kvs:List (κ×V)} {vs:List (κ×Value)} (r:KV kvs vs):kvs.length=vs.length:=Paired.length r
end
theorem zt {P:Program} {w:World} {k:qE} {u:Value} (r:qK (kV k) u):(qS P w).is k u=true:=by
 cases k with
 | inl i=>obtain⟨t,e⟩:=(show ∃t,u=Value.int i t from r);subst e;exact Vl P w i t
 | inr x=>obtain⟨t,e⟩:=(show ∃t,u=Value.str x t from r);subst e;exact Vk P w x t
theorem Xn {P:Program} {w:World}:∀{ks:List qE} {us:List Value},qD (ks.map kV) us->ItemsAre (qS P w) ks us
 | [],_,r=>by rw[List.map_nil]at r;cases r;exact .nil
 | k::ks,_,r=>by
   rw[List.map_cons]at r
   cases r with
   | cons h t=>exact .cons (zt h) (Xn t)
abbrev KT (H:Hp):List (List qE×V)->List (List qE×Addr×Value)->Prop:=Paired λp q=>p.1=q.1/\H q.2.1=some (.tup (p.1.map kV))/\qK p.2 q.2.2
theorem KT.val {H:Hp} {kvs:List (List qE×V)} {xs:List (List qE×Addr×Value)} (r:KT H kvs xs) (k:List qE):Ji (ja kvs k) ((atKey xs k).map (·.2)):=by
 induction r with
 | nil=>exact True.intro
 | @cons p q ps qs h t ih=>
   obtain⟨h1,_,h2⟩:=h
   by_cases e:p.1=k
   . have e':q.1=k:=h1.symm.trans e
     have b:atKey (q::qs) k=some q.2:=by simp [atKey,List.find?_cons,e']
     rw[jk e,b];exact h2
   . have e':¬q.1=k:=λz=>e (h1.trans z)
     have b:atKey (q::qs) k=atKey qs k:=by simp [atKey,List.find?_cons,e']
     rw[jl e,b];exact ih
theorem KT.repl {H:Hp} {kvs:List (List qE×V)} {xs:List (List qE×Addr×Value)} (r:KT H kvs xs) (k:List qE) {y:V} {u:Value} (ry:qK y u):
   KT H (kvs.map λkv=>if kv.1=k then (kv.1,y) else kv) (xs.map (putAt k u)):=by
 induction r with
 | nil=>exact .nil
 | @cons p q ps qs h t ih=>
   rw[List.map_cons,List.map_cons]
   refine .cons ?_ ih
   obtain⟨h1,h2,h3⟩:=h
   unfold putAt
   by_cases e:p.1=k
   . rw[if_pos e,if_pos (h1.symm.trans e)];exact⟨h1,h2,ry⟩
   . rw[if_neg e,if_neg (λz=>e (h1.trans z))];exact⟨h1,h2,h3⟩
theorem KT.put {H:Hp} {kvs:List (List qE×V)} {xs:List (List qE×Addr×Value)} (r:KT H kvs xs) (k:List qE) {b:Addr} {y:V} {u:Value} (hb:H b=some (.tup (k.map kV))) (ry:qK y u):
   KT H (jA kvs k y) (storedH xs k b u):=by
 have e:(kvs.any λkv=>decide (kv.1=k))=(atKey xs k).isSome:=by
   rw[Qo,(r.val k).isSome_eq,Option.isSome_map]
 unfold jA storedH
 rw[e]
 by_cases q:(atKey xs k).isSome=true
 . rw[if_pos q,if_pos q];exact r.repl k ry
 . rw[if_neg q,if_neg q];exact Paired.snoc r ⟨rfl,hb,ry⟩
theorem KT.keeps {H H':Hp} {kvs:List (List qE×V)} {xs:List (List qE×Addr×Value)} (r:KT H kvs xs) (ht:∀b ys,H b=some (.tup ys)->H' b=some (.tup ys)):KT H' kvs xs:=
 Paired.mapP r λ_ _ z=>⟨z.1,ht _ _ z.2.1,z.2.2⟩
section
variable {P:Program} {w:World} {H:Hp} {h:Heap} {a:Addr}
theorem Gn {u:HO} (ok:Jk P w H h) (e:Rd H a u):qG P w H h a u:=e.ok ok
theorem YO {kvs:List (qE×V)} (ok:Jk P w H h) (e:Rd H a (.dK kvs)):kvs.length<=sizeLine/\(a==sysModules)=false/\∃vs,KV kvs vs/\h.DictOf (qS P w) a vs:=
 show qG P w H h a (.dK kvs) from Gn ok e
theorem Gx {kvs:List (qE×V)} (ok:Jk P w H h) (e:H a=some (.dK kvs)):kvs.length<=sizeLine/\(a==sysModules)=false/\∃vs,KV kvs vs/\h.DictOf (qS P w) a vs:=YO ok (.inl e)
theorem Z7 {ks:List qE} (ok:Jk P w H h) (e:H a=some (.tup (ks.map kV))):(tupleKind (qS P w)).is h ks a:=by
 obtain⟨_,its,r,o,h1,h2,n,h3⟩:=(show qG P w H h a (.tup (ks.map kV)) from ok a _ e)
 exact⟨o,its.toArray,n,h1,h2,h3,by simpa using Xn r⟩
theorem YN {kvs:List (List qE×V)} (ok:Jk P w H h) (e:Rd H a (.dT kvs)):kvs.length<=sizeLine/\(a==sysModules)=false/\
   ∃xs,KT H kvs xs/\h.DictOfH (tupleKind (qS P w)) a xs:=by
 obtain⟨z,y,xs,r,o,es,ep,h1,h2,h3,h4,h5⟩:=(show qG P w H h a (.dT kvs) from Gn ok e)
 refine⟨z,y,xs,r,o,es,ep,h1,h2,h3,h4,λx hx=>?_,h5⟩
 have all:∀{l:List (List qE×V)} {m:List (List qE×Addr×Value)},KT H l m->∀x∈m,(tupleKind (qS P w)).is h x.1 x.2.1:=by
   intro l m q
   induction q with
   | nil=>intro x hx;exact nomatch hx
   | @cons p q ps qs hq t ih=>
     intro x hx
     rcases List.mem_cons.mp hx with e | hx
     . subst e
       exact Z7 ok (by rw[<-hq.1];exact hq.2.1)
     . exact ih x hx
 exact all r x hx
theorem Mo {kvs:List (List qE×V)} (ok:Jk P w H h) (e:H a=some (.dT kvs)):kvs.length<=sizeLine/\(a==sysModules)=false/\
   ∃xs,KT H kvs xs/\h.DictOfH (tupleKind (qS P w)) a xs:=YN ok (.inl e)
end
def jW (H:Hp) (a:Addr) (y:V) (r:Option V):Prop:=
 (∃kvs k,Rd H a (.dK kvs)/\y=kV k/\r=ja kvs k)\/∃kvs k b,Rd H a (.dT kvs)/\y=.ref b/\H b=some (.tup (k.map kV))/\r=ja kvs k
def QR (H:Hp) (a:Addr) (y v:V) (H':Hp):Prop:=
 (∃kvs k,H a=some (.dK kvs)/\y=kV k/\kvs.length < sizeLine/\H'=upd H a (.dK (jA kvs k v)))\/
 ∃kvs k b,H a=some (.dT kvs)/\y=.ref b/\H b=some (.tup (k.map kV))/\kvs.length < sizeLine/\H'=upd H a (.dT (jA kvs k v))
theorem jW.k {H:Hp} {a:Addr} {kvs:List (qE×V)} {k:qE} (e:H a=some (.dK kvs)):jW H a (kV k) (ja kvs k):=.inl ⟨kvs,k,.inl e,rfl,rfl⟩
theorem QR.k {H:Hp} {a:Addr} {kvs:List (qE×V)} {k:qE} {v:V} (e:H a=some (.dK kvs)) (hl:kvs.length < sizeLine):QR H a (kV k) v (upd H a (.dK (jA kvs k v))):=.inl ⟨kvs,k,e,rfl,hl,rfl⟩
theorem QR.t {H:Hp} {a b:Addr} {kvs:List (List qE×V)} {k:List qE} {v:V} (e:H a=some (.dT kvs)) (eb:H b=some (.tup (k.map kV))) (hl:kvs.length < sizeLine):
   QR H a (.ref b) v (upd H a (.dT (jA kvs k v))):=.inr ⟨kvs,k,b,e,rfl,eb,hl,rfl⟩
section
variable {X:Cx} {pins:List (Addr×Obj)} {σ:St} {H:Hp} {s:Shared} {a:Addr} {y v:V} {u r:Value} {o:Option V} {A:Around} {E:Value->Shared->Prop}
theorem qx.big (I:qx X pins σ H s):sysModules < s.heap.objs.size:=by
 have h:mainGlobals < s.heap.objs.size:=(I.mod.glob.keeps I.bk).lt
 exact Nat.lt_trans (by decide) h
theorem yn {Q:Value->Shared->Prop} (hu:A.units+1 < cLine) (I:qx X pins σ H s) (g:jW H a y (some v)) (ry:qK y u) (h:∀w' s',qx X pins σ H s'->qK v w'->Q w' s'):
   wpAny (model X.prog X.w) A (getItem (.ref a) u) Q E s:=by
 rcases g with ⟨kvs,k,e,ey,l⟩ | ⟨kvs,k,b,e,ey,eb,l⟩
 . subst ey
   obtain⟨z,hd,vs,rel,dd⟩:=YO I.hok e
   obtain⟨w',hw,rw'⟩:=Ji.some_of (v:=v) (o:=valueAt vs k) (by rw[l];exact rel.val k)
   exact wpAny_getItem_of (zt ry) dd.mapOf hw (h w' _ (I.tok _) rw')
 . subst ey
   cases (show u=Value.ref b from ry)
   obtain⟨z,hd,xs,rel,dd⟩:=YN I.hok e
   obtain⟨w',hw,rw'⟩:=Ji.some_of (v:=v) (o:=(atKey xs k).map (·.2)) (by rw[l];exact rel.val k)
   obtain⟨p,hp,hp2⟩:=Option.map_eq_some_iff.mp hw
   refine wpAny_getItem_heap (tupleKind_room_in1 hu) (Z7 I.hok eb) dd hp ?_
   rw[hp2]
   exact h w' _ (I.tok _) rw'
theorem qav {Q:Value->Shared->Prop} (hu:A.units+1 < cLine) (I:qx X pins σ H s) (g:jW H a y o) (ry:qK y u) (h:∀s',qx X pins σ H s'->Q (.bool o.isSome) s'):
   wpAny (model X.prog X.w) A (compareOp .In u (.ref a)) Q E s:=by
 rcases g with ⟨kvs,k,e,ey,l⟩ | ⟨kvs,k,b,e,ey,eb,l⟩
 . subst ey
   obtain⟨z,hd,vs,rel,dd⟩:=YO I.hok e
   refine wpAny_in_of (zt ry) hd dd.mapOf ?_
   rw[<-(rel.val k).isSome_eq,<-l]
   exact h _ (I.tok _)
 . subst ey
   cases (show u=Value.ref b from ry)
   obtain⟨z,hd,xs,rel,dd⟩:=YN I.hok e
   refine wpAny_in_heap (tupleKind_room_in1 hu) (Z7 I.hok eb) hd dd ?_
   have q:=(rel.val k).isSome_eq
   rw[Option.isSome_map]at q
   rw[<-q,<-l]
   exact h _ (I.tok _)
theorem KQ {Q:Value->Shared->Prop} (hu:A.units+1 < cLine) (I:qx X pins σ H s) (g:jW H a y o) (ry:qK y u) (h:∀s',qx X pins σ H s'->Q (.bool (!o.isSome)) s'):
   wpAny (model X.prog X.w) A (compareOp .NotIn u (.ref a)) Q E s:=by
 rcases g with ⟨kvs,k,e,ey,l⟩ | ⟨kvs,k,b,e,ey,eb,l⟩
 . subst ey
   obtain⟨z,hd,vs,rel,dd⟩:=YO I.hok e
   refine wpAny_notIn_of (zt ry) hd dd.mapOf ?_
   rw[<-(rel.val k).isSome_eq,<-l]
   exact h _ (I.tok _)
 . subst ey
   cases (show u=Value.ref b from ry)
   obtain⟨z,hd,xs,rel,dd⟩:=YN I.hok e
   refine wpAny_notIn_heap (tupleKind_room_in1 hu) (Z7 I.hok eb) hd dd ?_
   have q:=(rel.val k).isSome_eq
   rw[Option.isSome_map]at q
   rw[<-q,<-l]
   exact h _ (I.tok _)
theorem WB {h':Heap} {t':Nat} {ob:HO} (I:qx X pins σ H s) (mu:No (H a)) (hs:Heap.SameBut a s.heap h') (he:∃q,h'.get? a=some q) (new:qG X.prog X.w (upd H a ob) h' a ob):
   qx X pins σ (upd H a ob) {s with heap:=h',toks:=t'}:=
 I.write (x:=a) (e:=a) mu (.inl rfl) (λb q hb z=>(hs.2 b hb).trans z) he new
theorem Ul {P:Program} {w:World} {H':Hp} {h':Heap} {kvs:List (qE×V)} {vs:List (qE×Value)} (z:kvs.length<=sizeLine) (hd:(a==sysModules)=false) (rel:KV kvs vs) (dd:h'.DictOf (qS P w) a vs):
   qG P w H' h' a (.dK kvs):=⟨z,hd,vs,rel,dd⟩
theorem ym {H':Hp} {Q:Unit->Shared->Prop} (hu:A.units+1 < cLine) (I:qx X pins σ H s) (g:QR H a y v H') (ry:qK y u) (rv:qK v r) (h:∀s',qx X pins σ H' s'->Q () s'):
   wpAny (model X.prog X.w) A (setItem (.ref a) u r) Q E s:=by
 rcases g with ⟨kvs,k,e,ey,l,eH⟩ | ⟨kvs,k,b,e,ey,eb,l,eH⟩
 . subst ey eH
   obtain⟨z,hd,vs,rel,dd⟩:=Gx I.hok e
   have hz:vs.length<=sizeLine:=by rw[<-rel.length];exact z
   have hl:(jA kvs k v).length<=sizeLine:=by have:=QV kvs k v;omega
   refine wpAny_setItem_pairs (hsz:=hz) (zt ry) dd λh' dd' hs=>h _ ?_
   have he:∃q,h'.get? a=some q:=let ⟨q,_,_,hq,_⟩:=dd';⟨q,hq⟩
   exact WB I (by rw[e];exact True.intro) hs he (Ul hl hd (rel.put k rv) dd')
 . subst ey eH
   cases (show u=Value.ref b from ry)
   obtain⟨z,hd,xs,rel,dd⟩:=Mo I.hok e
   have hz:xs.length<=sizeLine:=by rw[<-Paired.length rel];exact z
   have hl:(jA kvs k v).length<=sizeLine:=by have:=QV kvs k v;omega
   refine wpAny_setItem_heap (hsz:=hz) (tupleKind_room_in1 hu) (Z7 I.hok eb) dd λh' dd' hs=>h _ ?_
   obtain⟨q,es,ep,hq,h2,h3,h4,_,h5⟩:=dd'
   refine WB I (by rw[e];exact True.intro) hs ⟨q,hq⟩ ⟨hl,hd,_,(rel.put k eb rv).keeps λc ys ec=>?_,q,es,ep,hq,h2,h3,h4,h5⟩
   rw[qh (N8 ec e (λz=>nomatch z))]
   exact ec
end
section
variable {X:Cx} {pins:List (Addr×Obj)} {σ:St} {H:Hp} {s:Shared} {a:Addr} {kvs:List (qE×V)} {k:qE} {u:Value} {A:Around} {E:Value->Shared->Prop}
end
def Mv (i:Expr):Prop:=∀ov iv,subscripted i false ov iv=operate [ov,iv] (getItem ov iv)
theorem uw {prog:Program} {w:World} {A:Around} {E:Value->Shared->Prop} {s:Shared} {env:Env} {value slice:Expr} {pos:Pos} {T id:String} {Q:Value->Shared->Prop}
   (hl:typeLookup (.type T) "__getitem__"=pure (some (.builtin id))) (hs:Mv slice)
   (h:wpAny (model prog w) A (eval value env) (λo s₁=>wpAny (model prog w) A (eval slice env) (λi s₂=>s₂.TypeIs o T/\wpAny (model prog w) A (getItem o i) Q E s₂) E s₁) E s):
   wpAny (model prog w) A (eval (.Subscript value slice pos) env) Q E s:=by
 refine Subscript_ (wpAny_mono h (λo s₁ h₁=>wpAny_mono h₁ (λi s₂ h₂=>?_) λ_ _ x=>x) λ_ _ x=>x)
 obtain⟨hT,h₂⟩:=h₂
 unfold subscriptTail
 refine wpAny_bind ?_
 rw[getitemInPython_of_ne hT.not_modules]
 refine wpAny_bind (wpAny_specialOf hT hl ?_)
 have fin:wpAny (model prog w) A (subscripted slice false o i) (λr s₃=>wpAny (model prog w) A (letTemporaryGo value o r >>= λ_=>pure r) Q E s₃) E s₂:=by
   rw[hs o i]
   exact wpAny_operating (wpAny_mono h₂ (λr s₃ h₃=>wpAny_bind (wpAny_letTemporaryGo (wpAny_pure h₃))) λ_ _ x=>x)
 first
   | exact wpAny_pure (wpAny_bind fin)
   | exact wpAny_bind (wpAny_pure (wpAny_bind fin))
   | exact wpAny_bind fin
theorem Vx {X:Cx} {pins:List (Addr×Obj)} {σ:St} {H:Hp} {s:Shared} {a:Addr} {y:V} {o:Option V} (I:qx X pins σ H s) (g:jW H a y o):s.TypeIs (.ref a) "dict":=by
 rcases g with ⟨kvs,k,e,_,_⟩ | ⟨kvs,k,b,e,_,_,_⟩
 . obtain⟨_,_,vs,_,dd⟩:=YO I.hok e
   exact dd.typeIs
 . obtain⟨_,_,xs,_,dd⟩:=YN I.hok e
   exact dd.typeIs
def WT (td ty:TE):TE:=λσ H Q=>td σ H λx H1=>ty σ H1 λy H2=>∃a v,x=.ref a/\jW H2 a y (some v)/\Q v H2
def ur (ty td:TE):TE:=λσ H Q=>ty σ H λy H1=>td σ H1 λx H2=>∃a o,x=.ref a/\jW H2 a y o/\Q (.bl o.isSome) H2
def UK (ty td:TE):TE:=λσ H Q=>ty σ H λy H1=>td σ H1 λx H2=>∃a o,x=.ref a/\jW H2 a y o/\Q (.bl (!o.isSome)) H2
def Gm (td ty tv:TE):TS:=λD σ H=>tv σ H λv H1=>td σ H1 λx H2=>ty σ H2 λy H3=>∃a H4,x=.ref a/\QR H3 a y v H4/\D.nx σ H4
section
variable {X:Cx} {o i e value:Expr} {pos pos' tpos:Pos} {td ty tv:TE}
theorem qL (hu:X.A.units+1 < cLine) (ho:JE X o td) (hi:JE X i ty) (hs:Mv i):JE X (.Subscript o i pos) (WT td ty):=.of (by
 have ho:=ho.to
 have hi:=hi.to
 intro pins s σ H Q I h
 refine uw PySem.F.slot_dict_getitem.lookup hs (q5 (ho pins s σ H _ I h) λu s1 ⟨x,H1,I1,rx,q1⟩=>q5 (hi pins s1 σ H1 _ I1 q1) λiv s2 ⟨y,H2,I2,ry,a,v,ex,g,q2⟩=>?_)
 subst ex
 obtain rfl:u=Value.ref a:=rx
 exact⟨Vx I2 g,yn hu I2 g ry λw' s3 I3 rw'=>⟨v,H2,I3,rw',q2⟩⟩)
theorem JV (hu:X.A.units+1 < cLine) (hi:JE X i ty) (ho:JE X o td):JC X .In i o (ur ty td):=.of (by
 have hi:=hi.to
 have ho:=ho.to
 intro pins s σ H Q I h
 refine q5 (hi pins s σ H _ I h) λiv s1 ⟨y,H1,I1,ry,q1⟩=>q5 (ho pins s1 σ H1 _ I1 q1) λu s2 ⟨x,H2,I2,rx,a,ov,ex,g,q2⟩=>?_
 subst ex
 obtain rfl:u=Value.ref a:=rx
 exact qav hu I2 g ry λs3 I3=>⟨.bl ov.isSome,H2,I3,rfl,q2⟩)
theorem QH (hu:X.A.units+1 < cLine) (hi:JE X i ty) (ho:JE X o td):JC X .NotIn i o (UK ty td):=.of (by
 have hi:=hi.to
 have ho:=ho.to
 intro pins s σ H Q I h
 refine q5 (hi pins s σ H _ I h) λiv s1 ⟨y,H1,I1,ry,q1⟩=>q5 (ho pins s1 σ H1 _ I1 q1) λu s2 ⟨x,H2,I2,rx,a,ov,ex,g,q2⟩=>?_
 subst ex
 obtain rfl:u=Value.ref a:=rx
 exact KQ hu I2 g ry λs3 I3=>⟨.bl (!ov.isSome),H2,I3,rfl,q2⟩)
theorem je (hu:X.A.units+1 < cLine) (ho:JE X o td) (hi:JE X i ty) (hv:JE X value tv) (hs:swapsWith value (some (.Subscript o i pos')) pos.line X.env=pure false):JS X (.Assign [.Subscript o i pos'] value pos) (Gm td ty tv):=.of (by
 have ho:=ho.to
 have hi:=hi.to
 have hv:=hv.to
 intro pins s σ H D I h
 refine wpAny_Assign_Subscript (q5 (hv pins s σ H _ I h) λr s1 ⟨v,H1,I1,rv,q1⟩=>q5 (ho pins s1 σ H1 _ I1 q1) λu s2 ⟨x,H2,I2,rx,q2⟩=>q5 (hi pins s2 σ H2 _ I2 q2) λiv s3 ⟨y,H3,I3,ry,a,H4,ex,g,q3⟩=>?_) hs
 subst ex
 obtain rfl:u=Value.ref a:=rx
 exact ym hu I3 g ry rv λs4 I4=>⟨σ,H4,I4,q3⟩)
end
theorem Vw {P:Program} {w:World} {H:Hp} (h:Heap) (hb:sysModules < h.objs.size):qG P w H (h.push {cls:=.type "dict",data:=.dict #[]}) h.objs.size (.dK []):=
 ⟨Nat.zero_le _,beq_eq_false_iff_ne.mpr (Ne.symm (Nat.ne_of_lt hb)),[],.nil,Heap.DictOf.new h⟩
theorem wO {P:Program} {w:World} {H:Hp} (h:Heap) (hb:sysModules < h.objs.size):qG P w H (h.push {cls:=.type "dict",data:=.dict #[]}) h.objs.size (.dT []):=
 ⟨Nat.zero_le _,beq_eq_false_iff_ne.mpr (Ne.symm (Nat.ne_of_lt hb)),[],.nil,_,#[],0,Heap.get?_push_size _ rfl,⟨rfl,rfl,rfl⟩,rfl,rfl,List.nodup_nil⟩
def yE:TE:=λ_ H Q=>∀p,H p=none->Q (.ref p) (upd H p (.dK []))
def yD:TE:=λ_ H Q=>∀p,H p=none->Q (.ref p) (upd H p (.dT []))
section
variable {X:Cx} {pos:Pos}
theorem xl:PE X (.Dict [] [] pos) yE:=λpins s σ H Q I h=>
 wpAny_Dict_empty ⟨.ref s.heap.objs.size,_,I.laid (a:=s.heap.objs.size) (o:=.dK []) (t':=s.toks) (λ_ _ q=>Heap.get?_push_of_some _ q) (Nat.le_refl _) (Vw s.heap I.big),rfl,h _ (I.hok.fresh (Nat.le_refl _))⟩
theorem jU:JE X (.Dict [] [] pos) yE:=.of (xl)
theorem xk:PE X (.Dict [] [] pos) yD:=λpins s σ H Q I h=>
 wpAny_Dict_empty ⟨.ref s.heap.objs.size,_,I.laid (a:=s.heap.objs.size) (o:=.dT []) (t':=s.toks) (λ_ _ q=>Heap.get?_push_of_some _ q) (Nat.le_refl _) (wO s.heap I.big),rfl,h _ (I.hok.fresh (Nat.le_refl _))⟩
theorem wm:JE X (.Dict [] [] pos) yD:=.of (xk)
end
def VN:List (TE×TE)->St->Hp->(List (V×V)->Hp->Prop)->Prop
 | [],_,H,Q=>Q [] H
 | (tk,tv)::r,σ,H,Q=>tk σ H λx H1=>tv σ H1 λy H2=>VN r σ H2 λps H3=>Q ((x,y)::ps) H3
abbrev VV:List (V×V)->List (Value×Value)->Prop:=Paired λp q=>qK p.1 q.1/\qK p.2 q.2
def Mu (X:Cx) (pos:Pos) (keys:List (Option Expr)) (values:List Expr) (trs:List (TE×TE)):Prop:=
 ∀(pins:List (Addr×Obj)) (s:Shared) (σ:St) (H:Hp) (Q:List (V×V)->Hp->Prop),qx X pins σ H s->VN trs σ H Q->
   wpAny (model X.prog X.w) X.A (evalPairs (pairTrees keys values X.env pos)) (λvs s'=>∃ps H',qx X pins σ H' s'/\VV ps vs/\Q ps H') X.xe s
@[irreducible] def ud (X:Cx) (pos:Pos) (keys:List (Option Expr)) (values:List Expr) (trs:List (TE×TE)):Prop:=Mu X pos keys values trs
theorem ud.of {X:Cx} {pos:Pos} {keys:List (Option Expr)} {values:List Expr} {trs:List (TE×TE)} (h:Mu X pos keys values trs):ud X pos keys values trs:=by unfold ud;exact h
theorem ud.to {X:Cx} {pos:Pos} {keys:List (Option Expr)} {values:List Expr} {trs:List (TE×TE)} (h:ud X pos keys values trs):Mu X pos keys values trs:=by unfold ud at h;exact h
theorem Kz {X:Cx} {pos:Pos}:ud X pos [] [] []:=.of (by
 exact λpins s σ H Q I h=>pairTrees_nil_walk ⟨[],H,I,.nil,h⟩)
theorem xg {X:Cx} {pos:Pos} {k v:Expr} {ks:List (Option Expr)} {vs:List Expr} {tk tv:TE} {trs:List (TE×TE)} (hk:PE X k tk) (hv:PE X v tv) (hr:Mu X pos ks vs trs):
   Mu X pos (some k::ks) (v::vs) ((tk,tv)::trs):=λpins s σ H Q I h=>
 pairTrees_cons_walk (q5 (hk pins s σ H _ I h) λu s1 ⟨x,H1,I1,rx,q1⟩=>q5 (hv pins s1 σ H1 _ I1 q1) λw2 s2 ⟨y,H2,I2,ry,q2⟩=>
   q5 (hr pins s2 σ H2 _ I2 q2) λws s3 ⟨ps,H3,I3,rel,q3⟩=>⟨(x,y)::ps,H3,I3,.cons ⟨rx,ry⟩ rel,q3⟩)
theorem YH {X:Cx} {pos:Pos} {k v:Expr} {ks:List (Option Expr)} {vs:List Expr} {tk tv:TE} {trs:List (TE×TE)} (hk:JE X k tk) (hv:JE X v tv) (hr:ud X pos ks vs trs):ud X pos (some k::ks) (v::vs) ((tk,tv)::trs):=.of (xg hk.to hv.to hr.to)
def Qu (kvs more:List (qE×V)):List (qE×V):=more.foldl (λacc kv=>jA acc kv.1 kv.2) kvs
theorem KV.merge:∀{more:List (qE×V)} {rs:List (qE×Value)} {kvs:List (qE×V)} {vs:List (qE×Value)},KV more rs->KV kvs vs->KV (Qu kvs more) (merged vs rs):=by
 intro more rs kvs vs r
 unfold KV at r
 induction r generalizing kvs vs with
 | nil=>intro q;exact q
 | @cons p q ps qs h t ih=>
   intro r0
   have e:KV (jA kvs p.1 p.2) (stored vs q.1 q.2):=by
     have:=r0.put p.1 h.2
     rw[<-h.1];exact this
   exact ih e
theorem Q3:∀(more kvs:List (qE×V)),(Qu kvs more).length<=kvs.length+more.length
 | [],kvs=>by show kvs.length<=kvs.length+0;omega
 | p::r,kvs=>by
   have h1:=Q3 r (jA kvs p.1 p.2)
   have h2:=QV kvs p.1 p.2
   show (Qu (jA kvs p.1 p.2) r).length<=_
   rw[List.length_cons];omega
theorem YQ {P:Program} {w:World}:∀{kvs:List (qE×V)} {ws:List (Value×Value)},VV (kvs.map λkv=>(kV kv.1,kv.2)) ws->∃rs,Carries (qS P w) ws rs/\KV kvs rs
 | [],_,r=>by rw[List.map_nil]at r;cases r;exact⟨[],True.intro,.nil⟩
 | p::kvs,_,r=>by
   rw[List.map_cons]at r
   cases r with
   | @cons a b as bs h t=>
     obtain⟨rs,c,q⟩:=YQ (P:=P) (w:=w) t
     obtain⟨b1,b2⟩:=b
     exact⟨(p.1,b2)::rs,⟨zt h.1,rfl,c⟩,.cons ⟨rfl,h.2⟩ q⟩
def NI (trs:List (TE×TE)):TE:=λσ H Q=>∀p,H p=none->VN trs σ (upd H p (.dK [])) λps H2=>H2 p=some (.dK [])/\∃kvs:List (qE×V),ps=kvs.map (λkv=>(kV kv.1,kv.2))/\kvs.length<=15/\Q (.ref p) (upd H2 p (.dK (Qu [] kvs)))
theorem KE {X:Cx} {pos:Pos} {keys:List (Option Expr)} {values:List Expr} {trs:List (TE×TE)} (h:ud X pos keys values trs) (hall:keys.all (·.isSome)=true) (hl:keys.length=values.length) (h0:keys≠[]) (h15:keys.length<=15):JE X (.Dict keys values pos) (NI trs):=.of (by
 have h:=h.to
 intro pins s σ H Q I q
 have hn:=I.hok.fresh (Nat.le_refl s.heap.objs.size)
 have I1:=I.laid (a:=s.heap.objs.size) (o:=.dK []) (h':=s.heap.push {cls:=.type "dict",data:=.dict #[]}) (t':=s.toks) (λ_ _ q=>Heap.get?_push_of_some _ q) (Nat.le_refl _) (Vw s.heap I.big)
 refine wpAny_Dict_walk (knd:=qS X.prog X.w) hall hl h0 h15 (q5 (h pins _ σ _ _ I1 (q _ hn)) λws s2 ⟨ps,H2,I2,rel,e,kvs,ep,lk,q2⟩=>?_)
 subst ep
 obtain⟨rs,c,rk⟩:=YQ (P:=X.prog) (w:=X.w) rel
 obtain⟨z,hd,vs0,r0,dd⟩:=Gx I2.hok e
 cases r0
 refine⟨rs,c,dd,λh' dd' hs=>⟨.ref s.heap.objs.size,_,?_,rfl,q2⟩⟩
 have hz:(Qu [] kvs).length<=sizeLine:=by
   have h1:=Q3 kvs []
   rw[List.length_nil]at h1
   rw[sizeLine_eq];omega
 have he:∃q,h'.get? s.heap.objs.size=some q:=let ⟨q,_,_,hq,_⟩:=dd';⟨q,hq⟩
 exact WB I2 (by rw[e];exact True.intro) hs he (Ul hz hd (rk.merge .nil) dd'))
structure M1 (X:Cx) (o:Expr) (m:Str) (apos:Pos) (e:Expr) (cpos:Pos):Prop where
 base:attributeBase o m X.env (eval o X.env)=eval o X.env
 few:((backTo cpos (starEach [e] X.env)).all (λx=> !x.1)&&(backToKw cpos (keywordEach [] X.env)).all (λx=>x.1.isSome)
   &&decide (([e]:List Expr).length+([]:List Keyword).length+(if ([]:List Keyword).isEmpty then 0 else 1) < 30))=true
 line:(apos.endLine==cpos.line)=true
 trees:backTo cpos (starEach [e] X.env)=[(false,eval e X.env)]
structure M2 (X:Cx) (o:Expr) (m:Str) (apos:Pos) (e f:Expr) (cpos:Pos):Prop where
 base:attributeBase o m X.env (eval o X.env)=eval o X.env
 few:((backTo cpos (starEach [e,f] X.env)).all (λx=> !x.1)&&(backToKw cpos (keywordEach [] X.env)).all (λx=>x.1.isSome)
   &&decide (([e,f]:List Expr).length+([]:List Keyword).length+(if ([]:List Keyword).isEmpty then 0 else 1) < 30))=true
 line:(apos.endLine==cpos.line)=true
 trees:backTo cpos (starEach [e,f] X.env)=[(false,eval e X.env),(false,eval f X.env)]
def IsD (H:Hp) (a:Addr):Prop:=(∃kvs,Rd H a (.dK kvs))\/∃kvs,Rd H a (.dT kvs)
theorem RZ {X:Cx} {pins:List (Addr×Obj)} {σ:St} {H:Hp} {s:Shared} {a:Addr} (I:qx X pins σ H s) (d:IsD H a):
   s.TypeIs (.ref a) "dict"/\(∀b,Value.ref a=.ref b->∃ob,s.heap.get? b=some ob/\ob.dict=none)/\(a==sysModules)=false:=by
 rcases d with ⟨kvs,e⟩ | ⟨kvs,e⟩
 . obtain⟨_,hd,vs,_,dd⟩:=YO I.hok e
   refine⟨dd.typeIs,λb q=>?_,hd⟩
   cases q
   obtain⟨ob,_,_,h1,h2,_⟩:=dd
   exact⟨ob,h1,h2.2.1⟩
 . obtain⟨_,hd,xs,_,dd⟩:=YN I.hok e
   refine⟨dd.typeIs,λb q=>?_,hd⟩
   cases q
   obtain⟨ob,_,_,h1,h2,_⟩:=dd
   exact⟨ob,h1,h2.2.1⟩
section
variable {X:Cx} {pins:List (Addr×Obj)} {σ:St} {H:Hp} {s:Shared} {a:Addr} {y d:V} {u r:Value} {o:Option V} {A:Around} {E:Value->Shared->Prop}
theorem Nd {Q:Value->Shared->Prop} (hu:A.units+1 < cLine) (I:qx X pins σ H s) (g:jW H a y o) (ry:qK y u) (h:∀w' s',qx X pins σ H s'->qK (o.getD .non) w'->Q w' s'):
   wpAny (model X.prog X.w) A (call (.builtin "dict.get") [.ref a,u]) Q E s:=by
 rcases g with ⟨kvs,k,e,ey,l⟩ | ⟨kvs,k,b,e,ey,eb,l⟩
 . subst ey
   obtain⟨z,hd,vs,rel,dd⟩:=YO I.hok e
   refine call_meetsIn PySem.F.slot_dict_get dd.typeIs PySem.F.entry_dict_get (PySem.F.args_dict_get_2 _ _) (meets_dict_get (qS X.prog X.w) a (zt ry) hd) ⟨_,dd.mapOf,h _ _ (I.tok _) ?_⟩
   rw[l]
   exact(rel.val k).getD rfl
 . subst ey
   cases (show u=Value.ref b from ry)
   obtain⟨z,hd,xs,rel,dd⟩:=YN I.hok e
   refine call_meetsIn PySem.F.slot_dict_get dd.typeIs PySem.F.entry_dict_get (PySem.F.args_dict_get_2 _ _) (meetsH_dict_get (tupleKind (qS X.prog X.w)) a b hd) ⟨tupleKind_room_in1 hu,k,xs,Z7 I.hok eb,dd,h _ _ (I.tok _) ?_⟩
   rw[l]
   exact(rel.val k).getD rfl
end
def yF (td ty:TE):TE:=λσ H Q=>td σ H λx H1=>∃a,x=.ref a/\IsD H1 a/\ty σ H1 λy H2=>∃o,jW H2 a y o/\Q (o.getD .non) H2
section
variable {X:Cx} {o e f:Expr} {apos cpos:Pos} {td ty tx:TE}
theorem wn (hu:X.A.units+1 < cLine) (ho:JE X o td) (he:JE X e ty) (m:M1 X o "get" apos e cpos):JE X (.Call (.Attribute o "get" apos) [e] [] cpos) (yF td ty):=.of (by
 have ho:=ho.to
 have he:=he.to
 intro pins s σ H Q I h
 refine wpAny_Call_method m.base m.few m.line PySem.F.plainAttrs_dict PySem.F.slot_dict_get PySem.F.type_dict_get (q5 (ho pins s σ H _ I h) λu s1 ⟨x,H1,I1,rx,a,ex,d,q1⟩=>?_)
 subst ex
 obtain rfl:u=Value.ref a:=rx
 obtain⟨t1,t2,_⟩:=RZ I1 d
 refine⟨t1,t2,?_⟩
 rw[m.trees]
 refine Calls.callWith_builtin rfl (Calls.evalArgs_plain (Calls.spliced_cons (q5 (he pins s1 σ H1 _ I1 q1) λiv s2 ⟨y,H2,I2,ry,ov,g,q2⟩=>Calls.spliced_nil ?_)))
 exact Nd hu I2 g ry λw' s3 I3 rw'=>⟨_,H2,I3,rw',q2⟩)
end
section
variable {X:Cx} {pins:List (Addr×Obj)} {σ:St} {H:Hp} {s:Shared} {a:Addr} {kvs:List (qE×V)} {A:Around} {E:Value->Shared->Prop}
end
section
variable {X:Cx} {pins:List (Addr×Obj)} {σ:St} {H:Hp} {s:Shared} {a:Addr} {y:V} {u:Value} {A:Around} {E:Value->Shared->Prop}
end
end L2
namespace Att
open PySem PySem.W PySem.Calls PyProof.Rows
theorem zB {P:Params} {h:Heap}:∀(ns:List Int) (vs:List Value),WellAll P h vs (ns.map WData.int)->IntsAre vs ns:=by
 intro ns
 induction ns with
 | nil=>
   intro vs w
   rw[List.map_nil]at w
   cases w
   exact .nil
 | cons n ns ih=>
   intro vs w
   rw[List.map_cons]at w
   cases w with
   | cons a b=>
     cases a
     exact .cons _ _ (ih _ b)
theorem ko {l:OpenLaw} {n:Nat} (hn:l.most=some n) {P:Params} {h:Heap} {args:List WData} {vals:List Value}
   (hpre:l.row.toRowW.claim.pre args=true) (hwl:WellAll P h vals args):
   ∃a vs ns,vals=[Value.ref a]/\args=[WData.list (ns.map WData.int)]/\h.get? a=some {cls:=.type "list",data:=.seq vs.toArray}/\IntsAre vs ns/\ns.length<=n:=by
 have hsh:WShape.hasAll [] args [.list .int]=true:=(pre_splitW hpre).1
 have hc:l.pre.holds [] {args:=args}=true:=(pre_splitW hpre).2
 obtain⟨d,r,rfl,h1,h2⟩:=hasAllW_cons hsh
 obtain rfl:=hasAllW_nil h2
 obtain⟨xs,rfl,h3⟩:=hasW_list h1
 obtain⟨ns,rfl⟩:=items_int h3
 have hlen:ns.length<=n:=by
   unfold OpenLaw.pre at hc
   have h4:(WTm.not (.lt (.lit (.int (n:Int))) (.len (.arg 0)))).holds [] {args:=[.list (ns.map .int)]}=true:=by
     have h4:=(holds_andW hc).1
     rw[hn]at h4
     exact h4
   have h5:=condW_of h4 (w_not (w_lt w_lit (w_len_list (w_arg rfl))))
   rw[List.length_map]at h5
   refine Nat.le_of_not_lt λq=>?_
   have q':(n:Int) < ((ns.length:Nat):Int):=by omega
   first
     | (rw[decide_eq_true q']at h5;exact absurd h5 (by decide))
     | (simp at h5;omega)
 cases hwl with
 | cons w1 w2=>
   cases w2
   cases w1 with
   | list ho hall=>exact⟨_,_,ns,rfl,rfl,ho,zB ns _ hall,hlen⟩
theorem kD (l:OpenLaw) (args:List WData):l.row.toRowW.claim.post args (.bool true) args=true:=
 postW_of (r:=l.row.toRowW) (X:=(true==true))
   (show WShape.has [] (.bool true) .bool=true by first | rfl | decide | simp [WShape.has,WShape.arms,WShape.armsAll])
   (show (WTm.eq .res (.lit (.bool true))).value [] {args:=args,res:=some (.bool true),after:=args}=some (.bool (true==true)) from w_eq_bool (w_res rfl) w_lit) rfl
theorem attach_call {l:OpenLaw} {n:Nat} {q:Program} {loose:List Str} {XP:(Str->Option Value)->Heap->Prop} {YP:World->Heap->Prop} {d:DefRec}
   (hn:l.most=some n) (hdf:d.params.defaults=[])
   (call:∀(w:World) (s₀ s₁:Shared) (mg mb:Str->Option Value) (fa:Addr) (o:Obj) (pm cd doc:Value) (a:Addr) (vs:List Value) (ns:List Int),
     Ground q loose [] XP w s₀ mg mb s₁.heap->YP w s₁.heap->
     s₁.heap.get? fa=some o->o.data=.func (docDef d.name d.params d.body d.scope pm cd doc)->s₁.heap.CodeRec cd d.name->mg d.name=some (.ref fa)->
     s₁.heap.get? a=some {cls:=.type "list",data:=.seq vs.toArray}->IntsAre vs ns->ns.length<=n->s₁.gens=#[]->
     codeAny (model l.prog w) callerA (.call (.ref fa) ⟨[.ref a],[]⟩) (λr s'=>r=.ok (.ret (.bool true))/\OldK s₁.heap s'.heap/\s'.os=s₁.os/\AllBare s'.gens) s₁):
   WalkO q loose XP YP l.row.toRowW d [] (λf vs=>PySem.call f vs):=by
 intro w s₀ s₁ mg mb G Y fa o pm cd doc dV kV ho hd hcd hD hmg hg args vals as hpre hlay hrd hwl hlo
 obtain rfl:dV=.none:=Dflts.none hD hdf
 obtain rfl:kV=.none:=Dflts.noKw hD
 obtain⟨a,vs,ns,rfl,rfl,hobj,hints,hlen⟩:=ko hn hpre hwl
 refine enter_call (codeAny_mono (call w s₀ s₁ mg mb fa o pm cd doc a vs ns G Y ho (fd_plain hd) hcd hmg hobj hints hlen hg) λr s' hq=>?_)
 obtain⟨rfl,h2,h3,h4⟩:=hq
 exact⟨.inl ⟨.bool true,.bool true,[],rfl,λ_=>rfl,.bool true,kD l _,λ_=>⟨List.Pairwise.nil,λ_ hm=>(nomatch hm)⟩⟩,h2,h3,h4⟩
section
variable {prog:Program} {w:World} {A:Around} {E:Value->Shared->Prop} {s:Shared} {K:Frag}
end
end Att
namespace L2
open PySem PySem.Spec PyProof.Rows
theorem Y5:∀{vs:List Value} {ns:List Int},IntsAre vs ns->qD (ns.map V.int) vs
 | _,_,.nil=>.nil
 | _,_,.cons n t h=>.cons ⟨t,rfl⟩ (Y5 h)
def Nm (H:Hp):Prop:=∀b,H b=none\/∃o xs,H b=some (.frz o (.lst xs))
theorem xX {P:Program} {w:World} {K:PySem.W.Frag} {mg mb:Str->Option Value} {CX:XB} {k:Nat} {fa a:Addr} {fd:FuncData} {x:Str} {sp:Sp} {s₁:Shared} {vs:List Value} {ns:List Int}
   (KX:K.In s₁.heap) (hns:s₁.heap.Ns mainGlobals mg) (hb:s₁.heap.Ns builtinsNs mb) (hbb:∀x:Str,x≠"__name__"->mb x=bootBuiltins x) (hlim:s₁.heap.NoLimit) (hg:s₁.gens=#[])
   (ha:s₁.heap.get? a=some {cls:=.type "list",data:=.seq vs.toArray}) (hi:IntsAre vs ns) (hl:ns.length<=sizeLine) (hr:qW k callerA)
   (F:∀base:Heap,K.In base->base.Ns mainGlobals mg->qm P w K mg base CX k fa fd [x] sp) (hbind:∀(s:Shared) (u:Value),BindsTo s fd ⟨[u],[]⟩ [(x,u)])
   (hsp:∀H:Hp,Nm H->SqL K H a (ns.map V.int)->sp [.ref a] H (λv _=>v=.bl true) λ_ _ _=>False)
   (hCX:∀H e s',CX [] H s₁ (λ_ _ _=>False) e s'->False):
   codeAny (model P w) callerA (.call (.ref fa) ⟨[.ref a],[]⟩) (λr s'=>r=.ok (.ret (.bool true))/\OldK s₁.heap s'.heap/\s'.os=s₁.os/\AllBare s'.gens) s₁:=by
 have rv:=Y5 hi
 have lenV:=hi.length
 have core:∀H:Hp,Nm H->SqL K H a (ns.map V.int)->Jk P w H s₁.heap->(∀b,H b≠none->b=a)->(H a≠none->K.lookup a=none)->
     codeAny (model P w) callerA (.call (.ref fa) ⟨[.ref a],[]⟩) (λr s'=>r=.ok (.ret (.bool true))/\OldK s₁.heap s'.heap/\s'.os=s₁.os/\AllBare s'.gens) s₁:=by
   intro H hO hS hok hA hK
   have base_of:∀{b:Addr} {o:Obj},s₁.heap.get? b=some o->H b=none->(Wy s₁.heap H).get? b=some o:=λe n=>wA e n
   have noA:∀{b:Addr} {o:Obj} {es:Array DictEntry} {ep:Nat},s₁.heap.get? b=some o->o.data=.dict es ep->H b=none:=λ{b o es ep} e d=>by
     cases q:H b with
     | none=>rfl
     | some u=>
       have e':b=a:=hA b (by rw[q];simp)
       subst e'
       rw[ha]at e;cases e
       have d':Data.seq vs.toArray _=Data.dict es ep:=d
       cases d'
   have nsK:∀{b:Addr} {m:Str->Option Value},s₁.heap.Ns b m->(Wy s₁.heap H).Ns b m:=λ{b m} ⟨o,es,ep,e,d,r⟩=>⟨o,es,ep,base_of e (noA e d),d,r⟩
   have hKb:K.In (Wy s₁.heap H):=λb o e=>base_of (KX b o e) (by
     cases q:H b with
     | none=>rfl
     | some u=>
       have e':b=a:=hA b (by rw[q];simp)
       subst e'
       rw[hK (by rw[q];simp)]at e;cases e)
   have hM:Mod K mg (Wy s₁.heap H):=⟨hKb,nsK hns,⟨mb,nsK hb,hbb⟩,let ⟨mc,h1,h2⟩:=hlim;⟨mc,nsK h1,h2⟩⟩
   have e0:Uy P w K mg (Wy s₁.heap H) callerA [] s₁ H:=⟨rfl,hM,λb o e=>Kq e,Nat.le_of_eq (yc _ _),trivial,λb hb=>absurd (show b∈([]:List Addr) from hb) (by simp),hok,.of_eq hg⟩
   refine codeAny_mono ((F _ hKb (nsK hns)).run callerA [] s₁ H ⟨[.ref a],[]⟩ [.ref a] [.ref a] _ _ hr e0 (hbind s₁ (.ref a)) (.cons rfl .nil) (hsp H hO hS)) λr s' h=>?_
   cases r with
   | error e=>exact(hCX H e s' h).elim
   | ok fl=>
     cases fl with
     | next=>exact False.elim h
     | brk=>exact False.elim h
     | cont=>exact False.elim h
     | ret u=>
       obtain⟨v,H',os,bare,un,hok',r',q⟩:=h
       have q':v=.bl true:=q
       subst q'
       obtain rfl:u=Value.bool true:=r'
       refine⟨rfl,OldK.of_keep λb o e=>?_,os,bare⟩
       cases q:H b with
       | none=>exact un.keep b o e q (by intro z;exact absurd (show b∈([]:List Addr) from z) (by simp)) (by simp)
       | some u=>
         rcases hO b with z | ⟨ob,xs,z⟩
         . rw[q]at z;cases z
         . have z2:=un.frzs b ob _ z
           obtain⟨e1,_⟩:=hok b _ z
           obtain⟨e2,_⟩:=hok' b _ z2
           rw[e]at e1;cases e1
           exact e2
 cases hk:K.lookup a with
 | some o=>
   have e:=KX a o hk
   rw[ha]at e
   cases e
   refine core (λ_=>none) (λ_=>.inl rfl) (.inr ⟨_,vs.toArray,_,hk,rfl,rfl,rfl,by rw[List.size_toArray,lenV];exact hl,by simpa using rv⟩) (λb u z=>by have z':(none:Option HO)=some u:=z;cases z') (λb z=>absurd rfl z) λz=>absurd rfl z
 | none=>
   refine core (λb=>if b=a then some (.frz {cls:=.type "list",data:=.seq vs.toArray} (.lst (ns.map V.int))) else none) (λb=>?_) (.inl (.inr ⟨{cls:=.type "list",data:=.seq vs.toArray},if_pos rfl⟩)) (λb u z=>?_) (λb z=>?_) λ_=>hk
   . by_cases hb:b=a
     . exact .inr ⟨_,_,if_pos hb⟩
     . exact .inl (if_neg hb)
   . by_cases hb:b=a
     . have z':=(if_pos hb).symm.trans z
       cases z'
       subst hb
       exact⟨ha,by rw[List.length_map];exact hl,vs,_,rv,ha⟩
     . have z':=(if_neg hb).symm.trans z
       cases z'
   . by_cases hb:b=a
     . exact hb
     . exact absurd (if_neg hb) z
end L2
namespace L2
open PySem PySem.Spec PyProof.Rows
theorem walk_of {l:PySem.W.OpenLaw} {n k:Nat} {q:Program} {loose:List Str} {XP:(Str->Option Value)->Heap->Prop} {YP:World->Heap->Prop} {d:DefRec} {K:Params->PySem.W.Frag} {CX:World->XB} {sp:World->Sp} {x:Str}
   (hn:l.most=some n) (hn2:n<=sizeLine) (hdf:d.params.defaults=[]) (hr:qW k callerA)
   (hY:∀(w:World) (h:Heap),YP w h->(K w.params).In h)
   (F:∀(w:World) (mg:Str->Option Value) (fa:Addr) (h:Heap),(K w.params).In h->h.Ns mainGlobals mg->mg d.name=some (.ref fa)->
     ∃fd:FuncData,(∀(s:Shared) (u:Value),BindsTo s fd ⟨[u],[]⟩ [(x,u)])/\
      ∀base:Heap,(K w.params).In base->base.Ns mainGlobals mg->qm l.prog w (K w.params) mg base (CX w) k fa fd [x] (sp w))
   (hsp:∀(w:World) (H:Hp) (a:Addr) (ns:List Int),ns.length<=n->Nm H->SqL (K w.params) H a (ns.map V.int)->sp w [.ref a] H (λv _=>v=.bl true) λ_ _ _=>False)
   (hCX:∀(w:World) (H:Hp) (s:Shared) (e:Value) (s':Shared),CX w [] H s (λ_ _ _=>False) e s'->False):
   PySem.W.WalkO q loose XP YP l.row.toRowW d [] (λf vs=>PySem.call f vs):=by
 refine Att.attach_call hn hdf λw s₀ s₁ mg mb fa o pm cd doc a vs ns G Y ho hd hcd hmg hobj hints hlen hg=>?_
 have KX:=hY w _ Y
 obtain⟨fd,hb,hF⟩:=F w mg fa _ KX G.T.g hmg
 exact xX KX G.T.g G.T.b G.T.builtins G.T.nolimit hg hobj hints (Nat.le_trans hlen hn2) hr hF hb (λH hO hS=>hsp w H a ns hlen hO hS) λH e s'=>hCX w H s₁ e s'
end L2
namespace L2
open PySem PySem.Spec PyProof.Rows
def jH (s:Stmt) (j:Nat):Stmt:=match s with
 | .ClassDef _ _ _ body _ _ _ _ _ _ _=>body.getD j (.Pass ⟨0,0,0,0⟩)
 | _=>.Pass ⟨0,0,0,0⟩
def QW (s:Stmt):Arguments:=match s with
 | .FunctionDef _ a _ _ _ _ _ _ _ _=>a
 | _=>{posonlyargs:=[],args:=[],vararg:=none,kwonlyargs:=[],kw_defaults:=[],kwarg:=none,defaults:=[]}
def Qd (s:Stmt):List Stmt:=match s with
 | .FunctionDef _ _ b _ _ _ _ _ _ _=>b
 | _=>[]
def qj (s:Stmt):Scope:=match s with
 | .FunctionDef _ _ _ _ _ _ sc _ _ _=>sc
 | _=>{kind:=.function,names:=[],isGenerator:=false,isCoroutine:=false}
abbrev qO:XB:=λ_ _ _ _ _ _=>False
abbrev E0:XK:=λ_ _ _=>False
theorem QL {X:Cx}:Ql qO X E0:=λ_ _ _ _ _ _ _ h=>h.elim
structure jM (K:PySem.W.Frag) (x qual:Str) (st:Stmt) (f:Addr) (fd:FuncData):Prop where
 ex:∃(oc:Value) (od:Option Addr) (kV doc pm:Value) (an:Option Addr) (cdv ct:Value) (osl:Array (Option Value)),
   fd=PySem.W.fnOf x qual (QW st) (Qd st) (qj st) .none kV doc pm an cdv ct/\K.lookup f=some ⟨oc,od,.func fd,osl⟩/\PySem.W.codeIn K cdv qual=true
 kp:PySem.W.keepIn K (.ref f)=true
section
variable {P:Program} {w:World} {K:PySem.W.Frag} {mg:Str->Option Value} {base:Heap}
theorem jM.ok {x qual:Str} {st:Stmt} {f:Addr} {fd:FuncData} {N ps:List Str} {k:Nat} {sp:Sp} (F:jM K x qual st f fd) (S:qr N ps (qj st)) (len:∀vs H Q E,sp vs H Q E->vs.length=ps.length)
   (hbody:∀(cdv:Value) (A:Around) (outer:List Env) (s:Shared) (H:Hp) (vs:List V) (Q:VK) (E:XK),qW k (A.deeper (envOfC qual (qj st) s.heap.objs.size f cdv))->sp vs H Q E->
     ∃t,ub (Zp qO P w K mg base N qual (qj st) f cdv A outer s H E).nox (Qd st) t/\t {nx:=λ_ H'=>Q .non H',rt:=Q} (Zh N vs) H):qm P w K mg base qO (k+1) f fd ps sp:=by
 obtain⟨oc,od,kV,doc,pm,an,cdv,ct,osl,rfl,lk,hcd⟩:=F.ex
 refine Gw lk hcd S len λA outer s H vs Q E hr hsp=>?_
 obtain⟨t,h,q⟩:=hbody cdv A outer s H vs Q E hr hsp
 exact⟨t,h.nox,q⟩
theorem jM.okJ {x qual:Str} {st:Stmt} {f:Addr} {fd:FuncData} {N ps:List Str} {k:Nat} {sp:Sp} (F:jM K x qual st f fd) (S:qr N ps (qj st)) (len:∀vs H Q E,sp vs H Q E->vs.length=ps.length)
   (hbody:∀(cdv:Value) (A:Around) (outer:List Env) (s:Shared) (H:Hp) (vs:List V) (Q:VK) (E:XK),qW k (A.deeper (envOfC qual (qj st) s.heap.objs.size f cdv))->sp vs H Q E->
     ∃t,WJ (Zp qO P w K mg base N qual (qj st) f cdv A outer s H E).nox (Qd st) t/\t {nx:=λ_ H'=>Q .non H',rt:=Q} (Zh N vs) H):qm P w K mg base qO (k+1) f fd ps sp:=
 F.ok S len λcdv A outer s H vs Q E hr h=>let ⟨t,a,b⟩:=hbody cdv A outer s H vs Q E hr h;⟨t,a.to,b⟩
theorem jM.binds {x qual:Str} {st:Stmt} {f:Addr} {fd:FuncData} {ps:List Str} (F:jM K x qual st f fd)
   (h:∀(kV doc pm:Value) (an:Option Addr) (cdv ct:Value) (us:List Value),us.length=ps.length->bindArgs (PySem.W.fnOf x qual (QW st) (Qd st) (qj st) .none kV doc pm an cdv ct) ⟨us,[]⟩=pure (ps.zip us)):jx K fd ps []:=by
 obtain⟨oc,od,kV,doc,pm,an,cdv,ct,osl,rfl,lk,hcd⟩:=F.ex
 exact .all (h kV doc pm an cdv ct)
theorem Ue {x qual:Str} {st:Stmt} {f:Addr} {oc:Value} {od an:Option Addr} {osl:Array (Option Value)} {kV doc pm cdv ct:Value} (l:K.lookup f=some ⟨oc,od,.func (PySem.W.fnOf x qual (QW st) (Qd st) (qj st) .none kV doc pm an cdv ct),osl⟩)
   (c:PySem.W.codeIn K cdv qual=true) (k:PySem.W.keepIn K (.ref f)=true):jM K x qual st f (PySem.W.fnOf x qual (QW st) (Qd st) (qj st) .none kV doc pm an cdv ct):=⟨⟨oc,od,kV,doc,pm,an,cdv,ct,osl,rfl,l,c⟩,k⟩
end
theorem jV {A:Around} {k:Nat} (hr:qW k A):A.units+1 < cLine:=Nat.lt_of_le_of_lt (Nat.add_le_add_left (by decide:1<=64) _) hr.units
theorem qp {n:Nat} (h:n<=1000):n < sizeLine:=Nat.lt_of_le_of_lt h (by decide)
section
variable {X:Cx}
theorem pv (i:Nat) {x:Str} {pos:Pos} (hN:X.N[i]?=some x:=by rfl) (hv:Ni X.env.scope x:=by first | exact Or.inl rfl | exact Or.inr (Or.inl rfl) | exact Or.inr (Or.inr rfl)) (hd:(x==("__debug__":Str))=false:=by decide)
   (hcd:(x==("__classdict__":Str))=false:=by decide):PE X (.Name x pos) (qU i):=xi hN hv hd hcd
theorem jv (i:Nat) {x:Str} {pos:Pos} (hN:X.N[i]?=some x:=by rfl) (hv:Ni X.env.scope x:=by first | exact Or.inl rfl | exact Or.inr (Or.inl rfl) | exact Or.inr (Or.inr rfl)) (hd:(x==("__debug__":Str))=false:=by decide) (hcd:(x==("__classdict__":Str))=false:=by decide):JE X (.Name x pos) (qU i):=.of (pv i hN hv hd hcd)
end
theorem jf {A B:Prop} (h:B):if false=true then A else B:=by
 rw[if_neg Bool.false_ne_true]
 exact h
theorem jP {A B:Prop} (h:A):if true=true then A else B:=by
 rw[if_pos rfl]
 exact h
theorem k6 {c A B:Prop} [Decidable c] (h1:c->A) (h2:¬c->B):if c then A else B:=by
 by_cases h:c
 . rw[if_pos h]
   exact h1 h
 . rw[if_neg h]
   exact h2 h
def Same (H H':Hp):Prop:=∀b o,H b=some o->H' b=some o
theorem Same.refl (H:Hp):Same H H:=λ_ _ h=>h
theorem Same.trans {H H1 H2:Hp} (a:Same H H1) (b:Same H1 H2):Same H H2:=λc o h=>b c o (a c o h)
theorem Same.seq {K:PySem.W.Frag} {H H':Hp} {a:Addr} {xs:List V} (e:Same H H') (h:SqL K H a xs):SqL K H' a xs:=by
 rcases h with (h | ⟨o,h⟩) | h
 . exact .inl (.inl (e _ _ h))
 . exact .inl (.inr ⟨o,e _ _ h⟩)
 . exact .inr h
section
variable {X:Cx}
end
section
variable {κ:Type} [DecidableEq κ]
theorem ui {kvs:List (κ×V)} {k:κ} {v:V} (h:ja kvs k=some v):k∈kvs.map (·.1):=by
 have q:(kvs.any λkv=>decide (kv.1=k))=true:=by
   rw[Qo,h]
   all_goals rfl
 obtain⟨p,hp,e⟩:=List.any_eq_true.mp q
 exact List.mem_map.mpr ⟨p,hp,of_decide_eq_true e⟩
end
end L2
set_option Elab.async false
set_option linter.all false
set_option maxRecDepth 100000
set_option maxHeartbeats 4000000
namespace L2
open PySem PySem.Spec PyProof.Rows
theorem vA:(NameKind.free==NameKind.free)=true:=rfl
def jR (env:Env):List (Str×NameKind)->List (Str×Addr)->List (Str×Addr)
 | [],cs=>cs
 | (n,k)::r,cs=>jR env r (if k==.free then (n,(env.cells.lookup n).getD 0)::cs else cs)
theorem Zj {scope:Scope} {env:Env} (h:∀x∈scope.names,x.2=.free->∃c,env.cells.lookup x.1=some c):closureFor scope env=pure (jR env scope.names []):=by
 simp only[closureFor]
 have key:∀(l:List (Str×NameKind)) (cs:List (Str×Addr)),(∀x∈l,x.2=.free->∃c,env.cells.lookup x.1=some c)->
     (forIn l cs λx (r:List (Str×Addr))=>if (x.snd==NameKind.free)=true then (do let a <-cellOf env x.fst;pure (ForInStep.yield ((x.fst,a)::r)):Sem (ForInStep (List (Str×Addr)))) else pure (ForInStep.yield r))=(pure (jR env l cs):Sem (List (Str×Addr))):=by
   intro l
   induction l with
   | nil=>intro cs _;rfl
   | cons x l ih=>
     intro cs hl
     obtain⟨n,k⟩:=x
     have ihl:=λcs'=>ih cs' λy hy=>hl y (List.mem_cons_of_mem _ hy)
     rw[List.forIn_cons]
     by_cases hk:k=.free
     . subst hk
       obtain⟨c,hc⟩:=hl (n,.free) List.mem_cons_self rfl
       have e1:cellOf env n=pure c:=by
         unfold cellOf
         have hc':env.cells.lookup n=some c:=hc
         rw[hc']
       have e2:jR env ((n,NameKind.free)::l) cs=jR env l ((n,c)::cs):=by
         have hc':env.cells.lookup n=some c:=hc
         show jR env l (if (NameKind.free==NameKind.free)=true then (n,(env.cells.lookup n).getD 0)::cs else cs)=_
         rw[if_pos vA,hc']
         rfl
       rw[e2,<-ihl]
       dsimp only
       rw[if_pos vA,e1]
       rfl
     . have hb:(k==NameKind.free)=false:=by simpa using hk
       have e2:jR env ((n,k)::l) cs=jR env l cs:=by
         show jR env l (if (k==NameKind.free)=true then (n,(env.cells.lookup n).getD 0)::cs else cs)=_
         rw[if_neg (by rw[hb];decide)]
       rw[e2,<-ihl]
       dsimp only
       rw[if_neg (by rw[hb];decide)]
       rfl
 rw[key scope.names [] h]
 rfl
theorem zy {env:Env} {x:Str} {c:Addr}:∀{l:List (Str×NameKind)} {cs:List (Str×Addr)},(jR env l cs).lookup x=some c->cs.lookup x=some c\/((x,NameKind.free)∈l/\c=(env.cells.lookup x).getD 0)
 | [],cs,h=>.inl h
 | (n,k)::r,cs,h=>by
   rcases zy (l:=r) h with h | ⟨h1,h2⟩
   . by_cases hk:k=.free
     . subst hk
       rw[if_pos vA,List.lookup_cons]at h
       by_cases hx:x=n
       . subst hx
         simp only[beq_self_eq_true]at h
         exact .inr ⟨List.mem_cons_self,(Option.some.inj h).symm⟩
       . have hb:(x==n)=false:=beq_eq_false_iff_ne.mpr hx
         simp only[hb]at h
         exact .inl h
     . have hb:(k==NameKind.free)=false:=by simpa using hk
       rw[if_neg (by rw[hb];decide)]at h
       exact .inl h
   . exact .inr ⟨List.mem_cons_of_mem _ h1,h2⟩
theorem Zr {env:Env} {x:Str}:∀{l:List (Str×NameKind)} {cs:List (Str×Addr)},((x,NameKind.free)∈l\/∃c,cs.lookup x=some c)->∃c,(jR env l cs).lookup x=some c
 | [],cs,h=>by
   rcases h with h | h
   . cases h
   . exact h
 | (n,k)::r,cs,h=>by
   show ∃c,(jR env r (if (k==NameKind.free)=true then (n,(env.cells.lookup n).getD 0)::cs else cs)).lookup x=some c
   refine Zr (l:=r) ?_
   rcases h with h | ⟨c,h⟩
   . rcases List.mem_cons.mp h with h | h
     . cases h
       refine .inr ⟨(env.cells.lookup x).getD 0,?_⟩
       rw[if_pos vA,List.lookup_cons]
       simp only[beq_self_eq_true]
     . exact .inl h
   . refine .inr ?_
     by_cases hk:(k==NameKind.free)=true
     . rw[if_pos hk,List.lookup_cons]
       cases hx:x==n with
       | true=>exact⟨_,rfl⟩
       | false=>exact⟨c,h⟩
     . rw[if_neg hk]
       exact⟨c,h⟩
theorem ZD {scope:Scope} {env:Env} {x:Str} {k:NameKind}:∀{names:List (Str×NameKind)},names.lookup x=some k->
   ∃k',(names.map λ(n,k)=>if (k==NameKind.free&&env.scope.kind==.function&&env.kindOf n==some .cell) then (n,NameKind.cell) else (n,k)).lookup x=some k'/\(k'=k\/(k=.free/\k'=.cell))
 | [],h=>by simp at h
 | (n,j)::r,h=>by
   rw[List.map_cons]
   by_cases hx:x=n
   . subst hx
     rw[List.lookup_cons]at h
     simp only[beq_self_eq_true]at h
     cases h
     dsimp only
     by_cases hc:(k==NameKind.free&&env.scope.kind==.function&&env.kindOf x==some .cell)=true
     . rw[if_pos hc,List.lookup_cons]
       simp only[beq_self_eq_true]
       refine⟨_,rfl,.inr ⟨?_,rfl⟩⟩
       simp only[Bool.and_eq_true,beq_iff_eq]at hc
       exact hc.1.1
     . rw[if_neg hc,List.lookup_cons]
       simp only[beq_self_eq_true]
       exact⟨_,rfl,.inl rfl⟩
   . have hb:(x==n)=false:=beq_eq_false_iff_ne.mpr hx
     rw[List.lookup_cons]at h
     simp only[hb]at h
     obtain⟨k',h1,h2⟩:=ZD (env:=env) (scope:=scope) h
     refine⟨k',?_,h2⟩
     dsimp only
     by_cases hc:(j==NameKind.free&&env.scope.kind==.function&&env.kindOf n==some .cell)=true
     . rw[if_pos hc,List.lookup_cons]
       simp only[hb]
       exact h1
     . rw[if_neg hc,List.lookup_cons]
       simp only[hb]
       exact h1
theorem mem_of_lookup {x:Str} {k:NameKind}:∀{l:List (Str×NameKind)},l.lookup x=some k->(x,k)∈l
 | [],h=>by simp at h
 | (n,j)::r,h=>by
   rw[List.lookup_cons]at h
   by_cases hx:x=n
   . subst hx
     simp only[beq_self_eq_true]at h
     cases h
     exact List.mem_cons_self
   . have hb:(x==n)=false:=beq_eq_false_iff_ne.mpr hx
     simp only[hb]at h
     exact List.mem_cons_of_mem _ (mem_of_lookup h)
theorem Zi {f:Str×NameKind->Str×NameKind} (hf:∀p,(f p).1=p.1) {x:Str} {k:NameKind}:∀{l:List (Str×NameKind)},(l.map f).lookup x=some k->∃j,l.lookup x=some j/\(f (x,j)).2=k
 | [],h=>by simp at h
 | (n,j)::r,h=>by
   rw[List.map_cons]at h
   have e:f (n,j)=(n,(f (n,j)).2):=by
     have:=hf (n,j)
     exact Prod.ext this rfl
   rw[e,List.lookup_cons]at h
   rw[List.lookup_cons]
   by_cases hx:x=n
   . subst hx
     simp only[beq_self_eq_true]at h ⊢
     exact⟨j,rfl,Option.some.inj h⟩
   . have hb:(x==n)=false:=beq_eq_false_iff_ne.mpr hx
     simp only[hb]at h ⊢
     exact Zi hf h
def zw (X:Cx) (N:List Str) (scope:Scope) (C:Addr) (s₂:Shared) (H₂:Hp) (fp:List Addr) (pins:List (Addr×Obj)):Cx where
 prog:=X.prog
 w:=X.w
 K:=X.K
 mg:=X.mg
 base:=X.base
 A:=X.A
 N:=N
 s₀:=s₂
 H₀:=H₂
 env:=compEnvC scope (jR X.env scope.names []) C X.env
 outer:=X.stack
 stack:=X.stack
 ex:=fp
 fn:=λ_=>false
 calm:=X.calm
 pn:=X.pn++pins
 xe:=λ_ _=>False
def G0 (ix:List (Option Nat)) (σ:St):St:=ix.map λo=>o.bind λj=>(σ[j]?).join
def RY (N' N:List Str) (sc esc:Scope) (ix:List (Option Nat)):Bool:=
 ix.length==N'.length&&(ix.zip N').all λp=>match p.1 with
   | none=>true
   | some j=>N[j]?==some p.2&&sc.names.lookup p.2==some .free&&(esc.names.lookup p.2==some .cell || esc.names.lookup p.2==some .free)
structure jZ (X:Cx) (N':List Str) (ix:List (Option Nat)) (scope:Scope):Prop where
 kind:scope.kind=.function
 nocell:(scope.names.all λx=>x.2 != .cell)=true
 locs:(scope.names.all λx=>x.2 != .local || scope.names.lookup x.1==some .local)=true
 frees:(scope.names.all λx=>x.2 != .free || (X.env.scope.names.lookup x.1==some .cell || X.env.scope.names.lookup x.1==some .free))=true
 ixs:RY N' X.N scope X.env.scope ix=true
section
variable {X:Cx} {N':List Str} {ix:List (Option Nat)} {scope:Scope} {pins:List (Addr×Obj)} {σ:St} {H:Hp} {s:Shared}
theorem jZ.cellH (S:jZ X N' ix scope):∀y∈scope.names,y.2≠.cell:=λy hy e=>by
 have:=List.all_eq_true.mp S.nocell y hy
 rw[e]at this
 exact absurd this (by decide)
theorem jZ.locH (S:jZ X N' ix scope):∀y∈scope.names,y.2=.local->scope.names.lookup y.1=some .local:=λy hy e=>by
 have:=List.all_eq_true.mp S.locs y hy
 simp only[e,Bool.or_eq_true,bne_self_eq_false,Bool.false_eq_true,false_or,beq_iff_eq]at this
 exact this
theorem jZ.freeH (S:jZ X N' ix scope) (ok:X.Ok):∀x∈scope.names,x.2=.free->∃c,X.env.cells.lookup x.1=some c:=λx hx e=>by
 have:=List.all_eq_true.mp S.frees x hx
 simp only[e,Bool.or_eq_true,bne_self_eq_false,Bool.false_eq_true,false_or,beq_iff_eq]at this
 exact ok.has x.1 this
theorem jZ.clook (S:jZ X N' ix scope) (ok:X.Ok) {x:Str} {c:Addr} (h:(jR X.env scope.names []).lookup x=some c):X.env.cells.lookup x=some c/\(x,NameKind.free)∈scope.names:=by
 rcases zy h with h | ⟨h1,h2⟩
 . simp at h
 . obtain⟨c',hc'⟩:=S.freeH ok _ h1 rfl
   have hc2:X.env.cells.lookup x=some c':=hc'
   rw[hc2]at h2
   subst h2
   exact⟨hc2,h1⟩
theorem Mp {C:Addr} {fp:List Addr} (S:jZ X N' ix scope) (I:qx X pins σ H s) (hC:s.heap.objs.size<=C) (hf:∀b∈fp,Zt X pins H b) (hfo:∀b∈fp,b < s.heap.objs.size):(zw X N' scope C s H fp pins).Ok where
 mod:=I.ok.mod
 kind:=S.kind
 glob:=I.ok.glob
 blt:=I.ok.blt
 above:=hC
 inj:=λx y c h1 h2=>I.ok.inj x y c (S.clook I.ok h1).1 (S.clook I.ok h2).1
 has:=λx hx=>by
   have hx':(relabel scope X.env).names.lookup x=some .cell\/(relabel scope X.env).names.lookup x=some .free:=hx
   refine Zr (.inl ?_)
   have go:∀k,(k=NameKind.cell\/k=.free)->(relabel scope X.env).names.lookup x=some k->(x,NameKind.free)∈scope.names:=λk hk h=>by
     obtain⟨j,h1,h2⟩:=Zi (f:=λ(n,k)=>if (k==NameKind.free&&X.env.scope.kind==.function&&X.env.kindOf n==some .cell) then (n,NameKind.cell) else (n,k)) (λp=>by dsimp only;split<;>rfl) h
     have hm:=mem_of_lookup h1
     by_cases hj:j=.free
     . subst hj;exact hm
     . exfalso
       have hb:(j==NameKind.free)=false:=by simpa using hj
       dsimp only at h2
       rw[hb,Bool.false_and,Bool.false_and,if_neg (by decide)]at h2
       have h2':j=k:=h2
       rcases hk with e | e
       . exact S.cellH _ hm (h2'.trans e)
       . exact hj (h2'.trans e)
   rcases hx' with h | h
   . exact go _ (.inl rfl) h
   . exact go _ (.inr rfl) h
 cab:=λx c h _=>by cases h
 hd:=I.ok.hd
 frames:=I.ok.frames
 stk:=.inl rfl
 exf:=λb hb=>⟨Nat.ne_of_lt (Nat.lt_of_lt_of_le (hfo b hb) hC),λx c h=>(hf b hb).2.2.2.2.1 x c (S.clook I.ok h).1⟩
 bs:=I.bs
 bsz:=Nat.le_trans I.ok.bsz I.sz
 noex:=λb o e hb=>by
   rcases(hf b hb).2.2.2.1 with h | h
   . exact I.ok.noex b o e h
   . exact absurd (Nat.lt_of_lt_of_le (Heap.lt_size e) (Nat.le_trans I.ok.bsz h)) (Nat.lt_irrefl _)
 exfs:=λb hb hm=>by
   rcases List.mem_cons.mp (I.stkSub b hm) with e | e
   . exact(hf b hb).2.1 e
   . exact(hf b hb).2.2.1 e
 funs:=I.stack
 frf:=I.stkFree
theorem yb {C D:Addr} {fp:List Addr} {h₁:Heap} {m:Str->Option Value} {t':Nat} {n₀:Nat} (S:jZ X N' ix scope) (I:qx X pins σ H s) (hf:∀b∈fp,Zt X pins H b) (hfo:∀b∈fp,b < s.heap.objs.size)
   (hD:s.heap.objs.size<=D) (hC:s.heap.objs.size<=C) (hDC:D≠C) (kp:∀b o,s.heap.get? b=some o->h₁.get? b=some o) (hn:h₁.Ns C m) (hl:h₁.get? D=some {cls:=.type "list",data:=.seq #[] n₀}):
   qx (zw X N' scope C s H fp pins) [] (G0 ix σ) (upd H D (.lst [])) {s with heap:=h₁,toks:=t'} where
 ok:=Mp S I hC hf hfo
 os:=rfl
 bare:=I.bare
 base:=Un.laid kp hD (I.hok.fresh hD)
 loc:=by
   refine⟨m,hn,λi x v e1 e2 e3=>?_⟩
   have hix:=S.ixs
   unfold RY at hix
   rw[Bool.and_eq_true]at hix
   obtain⟨hlen,hall⟩:=hix
   have hlen':ix.length=N'.length:=by simpa using hlen
   have e1':N'[i]?=some x:=e1
   unfold G0 at e2
   rw[List.getElem?_map]at e2
   cases ho:ix[i]? with
   | none=>rw[ho]at e2;cases e2
   | some o=>
     rw[ho]at e2
     cases o with
     | none=>cases e2
     | some j=>
       have e2':(σ[j]?).join=some v:=Option.some.inj e2
       have hz:(ix.zip N')[i]?=some (some j,x):=by
         rw[List.getElem?_zip_eq_some]
         exact⟨ho,e1'⟩
       have hm:=List.all_eq_true.mp hall _ (List.mem_of_getElem? hz)
       dsimp only at hm
       simp only[Bool.and_eq_true,beq_iff_eq,Bool.or_eq_true]at hm
       obtain⟨⟨hN,hfr⟩,hk⟩:=hm
       have e2'':σ[j]?=some (some v):=by
         cases q:σ[j]? with
         | none=>rw[q]at e2';cases e2'
         | some z=>
           rw[q]at e2'
           have:z=some v:=e2'
           rw[this]
       obtain⟨mX,hnX,hlX⟩:=I.loc
       have hvis:Ni X.env.scope x:=by
         rcases hk with h | h
         . exact .inr (.inl h)
         . exact .inr (.inr h)
       obtain⟨u,ru,lu⟩:=hlX j x v hN e2'' hvis
       refine⟨u,ru,?_⟩
       rcases lu with ⟨hk',_⟩ | ⟨_,c,hc,hcell⟩
       . exfalso
         have hk'':X.env.scope.names.lookup x=some .local:=hk'
         rcases hk with h | h<;>rw[h]at hk''<;>cases hk''
       . right
         obtain⟨k',r1,r2⟩:=ZD (scope:=scope) (env:=X.env) hfr
         refine⟨?_,?_⟩
         . rcases r2 with z | ⟨_,z⟩
           . right;rw[z]at r1;exact r1
           . left;rw[z]at r1;exact r1
         . obtain⟨c',hc'⟩:=Zr (env:=X.env) (cs:=[]) (.inl (mem_of_lookup hfr))
           have:=(S.clook I.ok hc').1
           rw[hc]at this
           cases this
           obtain⟨o,ho',hd⟩:=hcell
           exact⟨c,hc',o,kp _ _ ho',hd⟩
 cell:=λx c h=>by
   obtain⟨v,o,ho,hd⟩:=I.cell x c (S.clook I.ok h).1
   exact⟨v,o,kp _ _ ho,hd⟩
 free:=by
   show (upd H D _) C=none
   rw[qh (Ne.symm hDC)]
   exact I.hok.fresh hC
 freeC:=λx c h=>by
   have h1:=(S.clook I.ok h).1
   obtain⟨v,o,ho,hd⟩:=I.cell x c h1
   rw[qh (Nat.ne_of_lt (Nat.lt_of_lt_of_le (Heap.lt_size ho) hD))]
   exact I.freeC x c h1
 pin:=λp hp=>by
   have hp':p∈X.pn++pins:=by
     have:p∈(X.pn++pins)++[]:=hp
     simpa using this
   obtain⟨e,n,ne,nf,d⟩:=I.pin p hp'
   have hlt:=Heap.lt_size e
   refine⟨kp _ _ e,?_,Nat.ne_of_lt (Nat.lt_of_lt_of_le hlt hC),λhm=>?_,d⟩
   . rw[qh (Nat.ne_of_lt (Nat.lt_of_lt_of_le hlt hD))];exact n
   . rcases List.mem_cons.mp (I.stkSub p.1 hm) with z | z
     . exact ne z
     . exact nf z
 hok:=I.hok.laid kp hD ⟨Nat.zero_le _,[],n₀,.nil,hl⟩
 len:=by
   have hix:=S.ixs
   unfold RY at hix
   rw[Bool.and_eq_true]at hix
   have:ix.length=N'.length:=by simpa using hix.1
   show (G0 ix σ).length=N'.length
   unfold G0
   rw[List.length_map,this]
theorem wx {C:Addr} {fp:List Addr} {σ':St} {H':Hp} {s':Shared} {pl:List (Addr×Obj)} (I:qx X pins σ H s) (hf:∀b∈fp,Zt X pins H b) (J:qx (zw X N' scope C s H fp pins) pl σ' H' s'):qx X pins σ H' s':=
 I.call' (ch:=fp) J.os J.base J.hok J.bare λb hb=>⟨(hf b hb).2.2.2.1,(hf b hb).2.1,(hf b hb).2.2.2.2.1,(hf b hb).2.2.2.2.2⟩
theorem ww {C:Addr} {H':Hp} {s₀ s':Shared} {h':Heap} (I₀:qx X pins σ H s₀) (I:qx X pins σ H' s') (hC:s₀.heap.objs.size<=C) (hn:H' C=none) (sb:Heap.SameBut C s'.heap h'):qx X pins σ H' {s' with heap:=h'}:=by
 refine I.turned (it:=C) (t':=s'.toks) (λb o hb e=>(sb.2 b hb).trans e) hn (Nat.ne_of_gt (Nat.lt_of_lt_of_le I₀.lt hC)) (.inr (Nat.le_trans I₀.sz hC)) (λx c e z=>?_) λp hp z=>?_
 . obtain⟨v,q⟩:=I₀.cell x c e
   exact absurd (Nat.lt_of_lt_of_le q.lt (by rw[z];exact hC)) (Nat.lt_irrefl _)
 . exact absurd (Nat.lt_of_lt_of_le (Heap.lt_size (I₀.pin p hp).1) (by rw[z];exact hC)) (Nat.lt_irrefl _)
end
def Ny (X:Cx) (ifs:List Expr) (t:TT):Prop:=
 ∀(pins:List (Addr×Obj)) (s:Shared) (σ:St) (H:Hp) (Q:Bool->Hp->Prop),qx X pins σ H s->t σ H Q->
   wpAny (model X.prog X.w) X.A (forIn ifs true λc r=>if r=true then do let ok <-isTrue c X.env (eval c X.env);pure (ForInStep.yield ok) else pure (ForInStep.yield r)) (TP X pins σ Q) X.xe s
@[irreducible] def uc (X:Cx) (ifs:List Expr) (t:TT):Prop:=Ny X ifs t
theorem uc.of {X:Cx} {ifs:List Expr} {t:TT} (h:Ny X ifs t):uc X ifs t:=by unfold uc;exact h
theorem uc.to {X:Cx} {ifs:List Expr} {t:TT} (h:uc X ifs t):Ny X ifs t:=by unfold uc at h;exact h
def MM:TT:=λ_ H Q=>Q true H
theorem jO {X:Cx}:uc X [] MM:=.of (by
 exact λ_ _ _ H _ I h=>wpAny_tests_nil ⟨H,I,h⟩)
theorem jy {X:Cx} {c:Expr} {t:TT} (h:JT X c t):uc X [c] t:=.of (by
 have h:=h.to
 exact λpins s σ H Q I hw=>wpAny_tests_one (h pins s σ H Q I hw))
section
variable {prog:Program} {w:World} {A:Around} {R:Result->Shared->Prop} {s:Shared}
theorem WC {elt target iter:Expr} {ifs:List Expr} {scope:Scope} {pos:Pos} {it acc:Value} {env:Env} (I:Nat->Shared->Prop)
   (turn:∀n s,I n s->wpAny (model prog w) A (pyNext it) (λr s₁=>match r with
     | none=>R (.ok .next) s₁
     | some v=>wpAny (model prog w) A (letOwnedTupleGo target it v) (λ_ s₁'=>wpAny (model prog w) A (assign target env v) (λ_ s₂=>
         wpAny (model prog w) A (forIn ifs true λc r=>if r=true then do let ok <-isTrue c env (eval c env);pure (ForInStep.yield ok) else pure (ForInStep.yield r)) (λok s₃=>
           if ok=true then wpAny (model prog w) A (eval elt env) (λx s₄=>
             wpAny (model prog w) A (call (.builtin "list.append") [acc,x]) (λ_ s₅=>∃m,m < n/\I m s₅) (λ_ _=>False) s₄) (λ_ _=>False) s₃
           else ∃m,m < n/\I m s₃) (λ_ _=>False) s₂) (λ_ _=>False) s₁') (λ_ _=>False) s₁) (λ_ _=>False) s)
   (n:Nat) (h:I n s):
   codeAny (model prog w) A (.compLoop (.ListComp elt [⟨target,iter,ifs,0⟩] scope pos) 0 it acc env) R s:=by
 refine codeAny_loop rfl I (λn s hI=>?_) n h
 show wpAny _ A ((compTurn (.ListComp elt [⟨target,iter,ifs,0⟩] scope pos) 0 it acc env).onRaise (λx=>do noteFrame x env;theTreesLotGoes x)) _ _ s
 refine wpAny_noted ?_
 rw[compTurn_list]
 refine wpAny_bind (wpAny_standAt (wpAny_bind (wpAny_mono (turn n s hI) (λr s₁ h₁=>?_) λ_ _ h'=>h'.elim)))
 cases r with
 | none=>exact wpAny_pure h₁
 | some v=>
   refine wpAny_bind (wpAny_mono h₁ (λ_ s₁' h₁'=>?_) λ_ _ h'=>h'.elim)
   refine wpAny_bind (wpAny_mono h₁' (λ_ s₂ h₂=>wpAny_bind (wpAny_mono h₂ (λok s₃ h₃=>?_) λ_ _ h'=>h'.elim)) λ_ _ h'=>h'.elim)
   cases ok with
   | false=>exact wpAny_pure ⟨rfl,h₃⟩
   | true=>
     exact wpAny_bind (wpAny_bind (wpAny_mono h₃ (λx s₄ h₄=>wpAny_bind (wpAny_mono h₄ (λ_ s₅ h₅=>wpAny_pure (wpAny_pure ⟨rfl,h₅⟩)) λ_ _ h'=>h'.elim)) λ_ _ h'=>h'.elim))
end
def zz (J:It) (g:TG) (tt:TT) (te:TE) (D:Addr) (σ:St) (H:Hp) (Q:Hp->Prop):Prop:=
 ∃W:Nat->Nat->St->Hp->Prop,(∃m,W 0 m σ (upd H D (.lst [])))/\∀i m σ' H',W i m σ' H'->
   (J.stop i H'/\Q H')\/(J.go i H'/\∃N:St->Hp->Prop,(∀σ2 H2,N σ2 H2->∃m',m' < m/\W (i+1) m' σ2 H2)/\∀x H2,J.yld i H' x H2->g x σ' H2 λσ2 H3=>tt σ2 H3 λb H4=>
     if b=true then te σ2 H4 λv H5=>∃ys,H5 D=some (.lst ys)/\ys.length < sizeLine/\N σ2 (upd H5 D (.lst (ys++[v]))) else N σ2 H4)
def ME (wi:TI) (ix:List (Option Nat)) (g:TG) (tt:TT) (te:TE):TE:=λσ H Q=>wi σ H λJ H1=>∀D,H1 D=none->zz J g tt te D (G0 ix σ) H1 λH2=>Q (.ref D) H2
section
variable {X:Cx} {N':List Str} {ix:List (Option Nat)} {scope:Scope}
theorem Xs {elt iter target:Expr} {ifs:List Expr} {pos:Pos} {g:TG} {tt:TT} {te:TE} {pins:List (Addr×Obj)} {σ:St} {H:Hp} {s:Shared} {it:Addr} {fp:List Addr} {tn:Nat->Heap->Prop} {J:It} {E:Value->Shared->Prop}
   {RR:Value->Addr->Result->Shared->Prop} {Q:Addr->Hp->Prop}
   (hc:X.calm=true) (S:jZ X N' ix scope) (I:qx X pins σ H s) (T:VD X.prog X.w X.K target J fp it tn) (st:tn 0 s.heap) (hf:∀b∈fp,Zt X pins H b)
   (hb:∀C s₂ H₂ fp pins,PG (zw X N' scope C s₂ H₂ fp pins) target g/\Ny (zw X N' scope C s₂ H₂ fp pins) ifs tt/\PE (zw X N' scope C s₂ H₂ fp pins) elt te)
   (h:∀D,H D=none->zz J g tt te D (G0 ix σ) H (Q D))
   (fin:∀(D C:Addr) (H':Hp) (s':Shared) (m:Str->Option Value),s.heap.objs.size<=C->H' C=none->s'.heap.Ns C m->qx X pins σ H' s'->Q D H'->RR (.ref D) C (.ok .next) s'):
   wpAny (model X.prog X.w) X.A (newList []) (λacc s₃=>wpAny (model X.prog X.w) X.A (newFunctionEnv scope X.env.globals (jR X.env scope.names []) [] X.env.qual none .none (some X.env)) (λcenv s₄=>
     codeAny (model X.prog X.w) X.A (.compStart (.ListComp elt [⟨target,iter,ifs,0⟩] scope pos) 0 (.ref it) acc {cenv with scope:=relabel scope X.env}) (RR acc cenv.locals) s₄) E s₃) E s:=by
 have hfo:∀b∈fp,b < s.heap.objs.size:=λb hb=>by
   obtain⟨o,e,_⟩:=T.obj _ _ st b hb
   exact Heap.lt_size e
 refine wpAny_newObj_type (wpAny_newFunctionEnv S.cellH (by intro y hy;simp at hy) (λh₁ hns₁ hsb₁=>?_) S.kind)
 dsimp only at hns₁ hsb₁ ⊢
 generalize hH2:s.heap.push {cls:=.type "list",dict:=none,data:=.seq ([]:List Value).toArray}=H2 at hns₁ hsb₁ ⊢
 have hC:H2.objs.size=s.heap.objs.size+1:=by rw[<-hH2,Heap.size_push]
 have hDC:s.heap.objs.size≠H2.objs.size:=by rw[hC];exact Nat.ne_of_lt (Nat.lt_succ_self _)
 have hCle:s.heap.objs.size<=H2.objs.size:=by rw[hC];exact Nat.le_succ _
 have below:∀b,b < s.heap.objs.size->b≠H2.objs.size:=λb hb=>by rw[hC];exact Nat.ne_of_lt (Nat.lt_succ_of_lt hb)
 have old:∀b o,s.heap.get? b=some o->h₁.get? b=some o:=λb o e=>hsb₁.extBut b o (below b (Heap.lt_size e)) (Heap.get?_push_of_some _ (hH2▸Heap.get?_push_of_some _ e))
 have hacc:h₁.get? s.heap.objs.size=some {cls:=.type "list",data:=.seq #[] 0}:=hsb₁.extBut _ _ hDC (Heap.get?_push_of_some _ (hH2▸Heap.get?_push_size _ rfl))
 obtain⟨W,⟨m0,w0⟩,turn⟩:=h s.heap.objs.size (I.hok.fresh (Nat.le_refl _))
 have I1:qx (zw X N' scope H2.objs.size s H fp pins) [] (G0 ix σ) (upd H s.heap.objs.size (.lst [])) {s with heap:=h₁,toks:=s.toks+([]:List (Str×Value)).length}:=
   yb S I hf hfo (Nat.le_refl _) hCle hDC old hns₁ hacc
 have st₁:tn 0 h₁:=T.keep _ _ _ st λb hb o e=>old b o e
 have fpn:∀b∈fp,(upd H s.heap.objs.size (.lst [])) b=none:=λb hb=>by
   rw[qh (Nat.ne_of_lt (hfo b hb))]
   exact(hf b hb).1
 obtain⟨hg,htt,hte⟩:=hb H2.objs.size s H fp pins
 have okY:=I1.ok
 have stat:∀{H':Hp},(∀b∈fp,H' b=none)->∀b∈fp,Zt (zw X N' scope H2.objs.size s H fp pins) [] H' b:=λ{H'} hn b hb=>
   ⟨hn b hb,(okY.exf b hb).1,okY.exfs b hb,.inl hb,(okY.exf b hb).2,λp hp=>by
     have hp':p∈X.pn++pins:=by
       have:p∈(X.pn++pins)++[]:=hp
       simpa using this
     exact(hf b hb).2.2.2.2.2 p hp'⟩
 have loop:codeAny (model X.prog X.w) X.A (.compLoop (.ListComp elt [⟨target,iter,ifs,0⟩] scope pos) 0 (.ref it) (.ref s.heap.objs.size) (compEnvC scope (jR X.env scope.names []) H2.objs.size X.env))
     (RR (.ref s.heap.objs.size) H2.objs.size) {s with heap:=h₁,toks:=s.toks+([]:List (Str×Value)).length}:=by
   refine WC (λn s'=>∃i σ' H',qx (zw X N' scope H2.objs.size s H fp pins) [] σ' H' s'/\tn i s'.heap/\(∀b∈fp,H' b=none)/\W i n σ' H') ?_ m0 ⟨0,_,_,I1,st₁,fpn,w0⟩
   rintro n s3 ⟨i,σ3,H3,I3,st3,fr3,w3⟩
   rcases turn i n σ3 H3 w3 with ⟨stop,qn⟩ | ⟨go,NN,hNN,step⟩
   . refine q5 (T.done (zw X N' scope H2.objs.size s H fp pins) rfl rfl rfl hc i [] s3 σ3 H3 _ I3 (stat fr3) st3 stop) λr s4 ⟨hr,I4⟩=>?_
     subst hr
     obtain⟨mm,hnm,_⟩:=I4.loc
     exact fin _ _ H3 s4 mm hCle I4.free hnm (wx I hf I4) qn
   . refine q5 (T.item (zw X N' scope H2.objs.size s H fp pins) rfl rfl rfl hc i [] s3 σ3 H3 _ I3 (stat fr3) st3 go) λr s4 ⟨u,hr,h4⟩=>?_
     subst hr
     refine q5 h4 λ_ s5 ⟨x,H5,I5,r5,y5,st5,fr5⟩=>?_
     have I5':=I5.pinned (stat fr5) (T.obj _ _ st5)
     refine q5 (hg _ s5 σ3 H5 x u _ I5' r5 (step x H5 y5)) λ_ s6 ⟨σ6,H6,I6,q6⟩=>?_
     refine q5 (htt _ s6 σ6 H6 _ I6 q6) λok s7 ⟨H7,I7,q7⟩=>?_
     have again:∀{σ8:St} {H8:Hp} {s8:Shared},qx (zw X N' scope H2.objs.size s H fp pins) ([]++Yv fp s5.heap) σ8 H8 s8->NN σ8 H8->
         ∃m,m < n/\∃i σ' H',qx (zw X N' scope H2.objs.size s H fp pins) [] σ' H' s8/\tn i s8.heap/\(∀b∈fp,H' b=none)/\W i m σ' H':=λ{σ8 H8 s8} I8 n8=>by
       obtain⟨m',hm,w8⟩:=hNN σ8 H8 n8
       refine⟨m',hm,i+1,σ8,H8,I8.unpinned,T.keep _ _ _ st5 λb hb o e=>(I8.pin (b,o) (List.mem_append_right _ (List.mem_append_right _ (Jo hb e)))).1,λb hb=>?_,w8⟩
       obtain⟨o,e,d⟩:=T.obj _ _ st5 b hb
       exact(I8.pin (b,o) (List.mem_append_right _ (List.mem_append_right _ (Jo hb e)))).2.1
     cases ok with
     | false=>
       rw[if_neg Bool.false_ne_true]at q7 ⊢
       exact again I7 q7
     | true=>
       rw[if_pos rfl]at q7 ⊢
       refine q5 (hte _ s7 σ6 H7 _ I7 q7) λv s8 ⟨y,H8,I8,r8,q8⟩=>?_
       obtain⟨ys,hy,hz,q8⟩:=q8
       refine q5 (J7 (X:=zw X N' scope H2.objs.size s H fp pins) _ s8 σ6 H8 (.ref s.heap.objs.size) [y] (.ref s.heap.objs.size) [v] (λ_ H9=>NN σ6 H9) I8 rfl (.cons r8 .nil) ⟨_,ys,y,rfl,rfl,hy,hz,q8⟩) λ_ s9 ⟨_,H9,I9,_,q9⟩=>?_
       exact again I9 q9
 exact codeAny_compStart_list loop (T.self X.A 0 _ _ _ st₁ loop)
theorem N3 {elt iter target:Expr} {ifs:List Expr} {pos:Pos} {wi:TI} {g:TG} {tt:TT} {te:TE} (hc:X.calm=true) (S:jZ X N' ix scope) (hi:PI X target iter wi)
   (hb:∀C s₂ H₂ fp pins,PG (zw X N' scope C s₂ H₂ fp pins) target g/\Ny (zw X N' scope C s₂ H₂ fp pins) ifs tt/\PE (zw X N' scope C s₂ H₂ fp pins) elt te)
   (hs:∀x,foldedSetIterable iter X.env x=pure x:=by intro _;rfl):PE X (.ListComp elt [⟨target,iter,ifs,0⟩] scope pos) (ME wi ix g tt te):=by
 intro pins s σ H Q I h
 rw[eval_ListComp]
 refine wpAny_comprehension_free (use:=none) rfl hs (Zj (S.freeH I.ok)) S.kind S.locH ?_
 refine q5 (hi pins s σ H _ I h) λxv s1 h1=>q5 h1 λitv s2 h2=>?_
 obtain⟨it,fp,tn,J,H2,e,I2,T,st2,f2,q2⟩:=h2
 subst e
 refine Xs (RR:=λacc C=>compPost (model X.prog X.w) X.A X.xe none (EP X pins σ Q) acc C) (Q:=λD H'=>Q (.ref D) H') hc S I2 T st2 f2 hb q2 ?_
 intro D C H' s' m hC hn hm I' q
 exact⟨m,hm,λh' sb=>⟨.ref D,H',ww I2 I' hC hn sb,rfl,q⟩⟩
theorem j3 {elt iter target:Expr} {ifs:List Expr} {pos:Pos} {wi:TI} {g:TG} {tt:TT} {te:TE} (hc:X.calm=true) (S:jZ X N' ix scope) (hi:JI X target iter wi) (hb:∀C s₂ H₂ fp pins,JG (zw X N' scope C s₂ H₂ fp pins) target g/\uc (zw X N' scope C s₂ H₂ fp pins) ifs tt/\JE (zw X N' scope C s₂ H₂ fp pins) elt te) (hs:∀x,foldedSetIterable iter X.env x=pure x:=by intro _;rfl):JE X (.ListComp elt [⟨target,iter,ifs,0⟩] scope pos) (ME wi ix g tt te):=.of (N3 hc S hi.to (λC s₂ H₂ fp pins=>⟨(hb C s₂ H₂ fp pins).1.to,(hb C s₂ H₂ fp pins).2.1.to,(hb C s₂ H₂ fp pins).2.2.to⟩) hs)
theorem xf {i:Nat} {x:Str} {elt iter target:Expr} {ifs:List Expr} {pos spos px:Pos} {wi:TI} {g:TG} {tt:TT} {te:TE} (hN:X.N.Nodup) (hxi:X.N[i]?=some x) (hx:Np X.env.scope x) (hc:X.calm=true) (S:jZ X N' ix scope) (hi:PI X target iter wi)
   (hb:∀C s₂ H₂ fp pins,PG (zw X N' scope C s₂ H₂ fp pins) target g/\Ny (zw X N' scope C s₂ H₂ fp pins) ifs tt/\PE (zw X N' scope C s₂ H₂ fp pins) elt te)
   (hsw:swapsWith (.ListComp elt [⟨target,iter,ifs,0⟩] scope pos) (some (.Name x px)) spos.line X.env=pure true:=by rfl)
   (hs:∀x,foldedSetIterable iter X.env x=pure x:=by intro _;rfl) (hf:X.fn x=true\/X.env.scope.names.lookup x=some .local:=by first | exact .inl rfl | exact .inr rfl | assumption):
   PS X (.Assign [.Name x px] (.ListComp elt [⟨target,iter,ifs,0⟩] scope pos) spos) (ut (ME wi ix g tt te) (QP i)):=by
 intro pins s σ H D I h
 rw[exec_Assign_Name_used _ _ _ _ hsw]
 refine wpAny_bind (wpAny_standAt (wpAny_bind ?_))
 show wpAny _ X.A (do let _ <-comprehension (.ListComp elt [⟨target,iter,ifs,0⟩] scope pos) scope X.env _ (newList []) false (eval iter X.env) (some (assign (.Name x px) X.env))) _ _ s
 refine wpAny_bind (q5 (wpAny_comprehension_free (use:=some (assign (.Name x px) X.env)) (Q:=λ_ s'=>SP X pins D .next s') rfl hs (Zj (S.freeH I.ok)) S.kind S.locH ?_) λ_ s' hq=>wpAny_pure (wpAny_pure hq))
 refine q5 (hi pins s σ H _ I h) λxv s1 h1=>q5 h1 λitv s2 h2=>?_
 obtain⟨it,fp,tn,J,H2,e,I2,T,st2,f2,q2⟩:=h2
 subst e
 refine Xs (RR:=λacc C=>compPost (model X.prog X.w) X.A X.xe (some (assign (.Name x px) X.env)) (λ_ s'=>SP X pins D .next s') acc C) (Q:=λD' H'=>QP i (.ref D') σ H' D.nx) hc S I2 T st2 f2 hb q2 ?_
 intro D' C H' s' m hC hn hm I' q
 show wpAny _ X.A (assign (.Name x px) X.env (.ref D')) _ _ _
 refine wpAny_assign_Name (Xa I' hN hxi hx (v:=.ref D') rfl (λs'' I'' hch=>?_) hf)
 obtain⟨a,sb,ha⟩:=hch
 have hCa:C≠a:=by
   rcases ha with z | z
   . rw[z];exact Nat.ne_of_gt (Nat.lt_of_lt_of_le I2.lt hC)
   . intro e
     obtain⟨v,qc⟩:=I2.cell x a z
     exact absurd (Nat.lt_of_lt_of_le qc.lt (by rw[<-e];exact hC)) (Nat.lt_irrefl _)
 refine⟨m,hm.sameBut sb hCa,λh' sb'=>?_⟩
 refine⟨_,H',?_,q⟩
 refine I''.turned (it:=C) (t':=s''.toks) (λb o hb e=>(sb'.2 b hb).trans e) hn (Nat.ne_of_gt (Nat.lt_of_lt_of_le I2.lt hC)) (.inr (Nat.le_trans I2.sz hC)) (λy c e z=>?_) λp hp z=>?_
 . obtain⟨v,qc⟩:=I2.cell y c e
   exact absurd (Nat.lt_of_lt_of_le qc.lt (by rw[z];exact hC)) (Nat.lt_irrefl _)
 . exact absurd (Nat.lt_of_lt_of_le (Heap.lt_size (I2.pin p hp).1) (by rw[z];exact hC)) (Nat.lt_irrefl _)
theorem Qr {i:Nat} {x:Str} {elt iter target:Expr} {ifs:List Expr} {pos spos px:Pos} {wi:TI} {g:TG} {tt:TT} {te:TE} (hN:X.N.Nodup) (hxi:X.N[i]?=some x) (hx:Np X.env.scope x) (hc:X.calm=true) (S:jZ X N' ix scope) (hi:JI X target iter wi) (hb:∀C s₂ H₂ fp pins,JG (zw X N' scope C s₂ H₂ fp pins) target g/\uc (zw X N' scope C s₂ H₂ fp pins) ifs tt/\JE (zw X N' scope C s₂ H₂ fp pins) elt te) (hsw:swapsWith (.ListComp elt [⟨target,iter,ifs,0⟩] scope pos) (some (.Name x px)) spos.line X.env=pure true:=by rfl) (hs:∀x,foldedSetIterable iter X.env x=pure x:=by intro _;rfl) (hf:X.fn x=true\/X.env.scope.names.lookup x=some .local:=by first | exact .inl rfl | exact .inr rfl | assumption):JS X (.Assign [.Name x px] (.ListComp elt [⟨target,iter,ifs,0⟩] scope pos) spos) (ut (ME wi ix g tt te) (QP i)):=.of (xf hN hxi hx hc S hi.to (λC s₂ H₂ fp pins=>⟨(hb C s₂ H₂ fp pins).1.to,(hb C s₂ H₂ fp pins).2.1.to,(hb C s₂ H₂ fp pins).2.2.to⟩) hsw hs hf)
end
end L2
set_option Elab.async false
set_option linter.all false
set_option maxRecDepth 100000
set_option maxHeartbeats 4000000
namespace L2
open PySem PySem.Spec PyProof.Rows
def Its (x:Str):It:=⟨λi _=>i < x.cps.size,λi H v H'=>H'=H/\∃c,x.cps[i]?=some c/\v=.str ⟨#[c]⟩,λi _=>i=x.cps.size⟩
theorem WR {P:Program} {w:World} {K:PySem.W.Frag} {tg:Expr} (it:Addr) (x:Str) (t:Tok) (ty:String)
   (hn:["enumerate","zip","dict_itemiterator","dict_reverseitemiterator","odict_iterator","itertools.zip_longest","itertools.pairwise"].contains ty=false)
   (hW:∀A:Around,A.handled=none->Walks P w A it [it] [it] x.cps.size (SignAt x) (λi h=>h.IsStrIter it ty x t i))
   (hself:∀(A:Around) (i:Nat) (s:Shared) (Q:Value->Shared->Prop) (E:Value->Shared->Prop),s.heap.IsStrIter it ty x t i->Q (.ref it) s->wpAny (model P w) A (pyIter (.ref it)) Q E s):
   VD P w K tg (Its x) [it] it (λi h=>h.IsStrIter it ty x t i) where
 mem:=by simp
 obj:=λi h st b hb=>by
   have e:b=it:=by simpa using hb
   subst e
   obtain⟨o,e,c,d⟩:=st
   exact⟨o,e,λv z=>by rw[d]at z;cases z⟩
 keep:=λi h h' st k=>let ⟨o,e,r⟩:=st;⟨o,k it (by simp) o e,r⟩
 item:=by
   intro X hP hw hK hc i pins s σ H E I hf st hg
   subst hP hw hK
   obtain⟨f0,f1,f2,f3,f4,f5⟩:=hf it (by simp)
   refine(hW X.A (I.ok.hd hc)).item i s _ _ hg st λv h' tk hv st' kk=>?_
   obtain⟨c,u,hcu,rfl⟩:=hv
   have I1:qx X pins σ H {s with heap:=h',toks:=tk}:=I.turned (λb o hb e=>kk b o (by simpa using hb) e) f0 f1 f3 f4 f5
   obtain⟨o,e,c1,d1⟩:=id st'
   exact⟨_,rfl,Vp (s:={s with heap:=h',toks:=tk}) e c1 d1 hn ⟨.str ⟨#[c]⟩,H,I1,⟨u,rfl⟩,⟨rfl,c,hcu,rfl⟩,st',λb hb=>(hf b hb).1⟩⟩
 done:=by
   intro X hP hw hK hc i pins s σ H E I hf st hg
   subst hP hw hK
   obtain⟨f0,f1,f2,f3,f4,f5⟩:=hf it (by simp)
   have hi:i=x.cps.size:=hg
   subst hi
   exact(hW X.A (I.ok.hd hc)).done s _ _ st λh' tk kk=>⟨rfl,I.turned (λb o hb e=>kk b o (by simpa using hb) e) f0 f1 f3 f4 f5⟩
 self:=hself
def qat (tl:TE):TI:=λσ H R=>tl σ H λx H1=>∃y,x=.str y/\R (Its y) H1
theorem RU {X:Cx} {tg l:Expr} {tl:TE} (hl:JE X l tl):JI X tg l (qat tl):=.of (by
 have hl:=hl.to
 intro pins s σ H R I h
 refine q5 (hl pins s σ H _ I h) λv s1 ⟨x,H1,I1,r1,q1⟩=>?_
 obtain⟨y,e,q⟩:=q1
 subst e
 obtain⟨t,rfl⟩:=r1
 have fp:∀b∈[s1.heap.objs.size],Zt X pins H1 b:=λb hb=>by
   have e:b=s1.heap.objs.size:=by simpa using hb
   subst e
   exact I1.fpOk (Nat.le_refl _) (I1.hok.fresh (Nat.le_refl _))
 cases ha:y.cps.all (· < 128)
 . refine wpAny_pyIter_wide ha ?_
   exact⟨s1.heap.objs.size,[s1.heap.objs.size],_,_,H1,rfl,I1.kept (t':=s1.toks) λb o e=>Heap.get?_push_of_some _ e,
     WR _ y t "str_iterator" (by decide) (λA hA=>Walks.strWide hA _ y t) (λA i s Q E st q=>wpAny_pyIter_striter_wide st q),⟨_,Heap.get?_push_size _ rfl,rfl,rfl⟩,fp,q⟩
 . refine wpAny_pyIter_ascii ha ?_
   exact⟨s1.heap.objs.size,[s1.heap.objs.size],_,_,H1,rfl,I1.kept (t':=s1.toks) λb o e=>Heap.get?_push_of_some _ e,
     WR _ y t "str_ascii_iterator" (by decide) (λA hA=>Walks.strAscii hA _ y t) (λA i s Q E st q=>wpAny_pyIter_striter_ascii st q),⟨_,Heap.get?_push_size _ rfl,rfl,rfl⟩,fp,q⟩)
section
variable {K:PySem.W.Frag} {g:TG} {tt:TT} {te:TE} {D a:Addr} {σ:St} {H:Hp} {Q:Hp->Prop}
def Xz (tt:TT) (te:TE) (D:Addr) (N:St->Hp->Prop):St->Hp->Prop:=λσ2 H3=>tt σ2 H3 λb H4=>
 if b=true then te σ2 H4 λv H5=>∃ys,H5 D=some (.lst ys)/\ys.length < sizeLine/\N σ2 (upd H5 D (.lst (ys++[v]))) else N σ2 H4
theorem YS {J:It} {n:Nat} (Pv:Nat->St->Hp->Prop) (h0:Pv 0 σ (upd H D (.lst [])))
   (go:∀i σ' H',i < n->Pv i σ' H'->J.go i H'/\∀x H2,J.yld i H' x H2->g x σ' H2 (Xz tt te D (Pv (i+1)))) (stop:∀σ' H',Pv n σ' H'->J.stop n H'/\Q H'):zz J g tt te D σ H Q:=by
 refine⟨λi m σ' H'=>m=n - i/\i<=n/\Pv i σ' H',⟨n,by simp,Nat.zero_le _,h0⟩,?_⟩
 rintro i m σ' H' ⟨rfl,hi,p⟩
 by_cases hlt:i < n
 . obtain⟨h1,h2⟩:=go i σ' H' hlt p
   exact .inr ⟨h1,Pv (i+1),λσ2 H2 p2=>⟨n - (i+1),by omega,rfl,hlt,p2⟩,h2⟩
 . have e:i=n:=by omega
   subst e
   exact .inl (stop σ' H' p)
theorem Za {lo:Int} {n:Nat} (Pv:Nat->St->Hp->Prop) (h0:Pv 0 σ (upd H D (.lst [])))
   (hs:∀i σ' H',i < n->Pv i σ' H'->g (.int (lo+i)) σ' H' (Xz tt te D (Pv (i+1)))) (hd:∀σ' H',Pv n σ' H'->Q H'):zz (GC lo n) g tt te D σ H Q:=
 YS (n:=n) Pv h0 (λi σ' H' hi p=>⟨hi,λx H2 y=>by
   obtain⟨e,y⟩:=y
   subst e y
   exact hs i σ' H2 hi p⟩) λσ' H' p=>⟨Nat.le_refl _,hd σ' H' p⟩
theorem jL {xs:List V} (Pv:Nat->St->Hp->Prop) (h0:Pv 0 σ (upd H D (.lst []))) (hl:∀i σ' H',i<=xs.length->Pv i σ' H'->SqL K H' a xs)
   (hs:∀i x σ' H',xs[i]?=some x->Pv i σ' H'->g x σ' H' (Xz tt te D (Pv (i+1)))) (hd:∀σ' H',Pv xs.length σ' H'->Q H'):zz (Nr K a) g tt te D σ H Q:=
 YS (n:=xs.length) Pv h0 (λi σ' H' hi p=>⟨⟨xs,xs[i],hl i σ' H' (Nat.le_of_lt hi) p,by simp [hi]⟩,λx H2 y=>by
   obtain⟨e,y⟩:=y
   subst e
   exact hs i x σ' _ (y xs (hl i σ' _ (Nat.le_of_lt hi) p)) p⟩) λσ' H' p=>⟨⟨xs,hl _ σ' H' (Nat.le_refl _) p,Nat.le_refl _⟩,hd σ' H' p⟩
theorem vI {xs:List V} (Pv:Nat->St->Hp->Prop) (h0:Pv 0 σ (upd H D (.lst []))) (hl:∀i σ' H',i<=xs.length->Pv i σ' H'->SqT K H' a xs)
   (hs:∀i x σ' H',xs[i]?=some x->Pv i σ' H'->g x σ' H' (Xz tt te D (Pv (i+1)))) (hd:∀σ' H',Pv xs.length σ' H'->Q H'):zz (Gz K a) g tt te D σ H Q:=
 YS (n:=xs.length) Pv h0 (λi σ' H' hi p=>⟨⟨xs,xs[i],hl i σ' H' (Nat.le_of_lt hi) p,by simp [hi]⟩,λx H2 y=>by
   obtain⟨e,y⟩:=y
   subst e
   exact hs i x σ' _ (y xs (hl i σ' _ (Nat.le_of_lt hi) p)) p⟩) λσ' H' p=>⟨⟨xs,hl _ σ' H' (Nat.le_refl _) p,Nat.le_refl _⟩,hd σ' H' p⟩
theorem KS {x:Str} (Pv:Nat->St->Hp->Prop) (h0:Pv 0 σ (upd H D (.lst [])))
   (hs:∀i c σ' H',x.cps[i]?=some c->Pv i σ' H'->g (.str ⟨#[c]⟩) σ' H' (Xz tt te D (Pv (i+1)))) (hd:∀σ' H',Pv x.cps.size σ' H'->Q H'):zz (Its x) g tt te D σ H Q:=
 YS (n:=x.cps.size) Pv h0 (λi σ' H' hi p=>⟨hi,λv H2 y=>by
   obtain⟨e,c,hc,rfl⟩:=y
   subst e
   exact hs i c σ' _ hc p⟩) λσ' H' p=>⟨rfl,hd σ' H' p⟩
end
section
variable {X:Cx}
theorem YT:∀(bs:List Bool),(List.range bs.length).all (λi=>bs.getD i false)=bs.all id:=by
 intro bs
 induction bs with
 | nil=>rfl
 | cons b bs ih=>
   rw[List.length_cons,List.range_succ_eq_map,List.all_cons,List.all_map,List.all_cons]
   have:((λi=>(b::bs).getD i false) ∘ Nat.succ)=λi=>bs.getD i false:=by
     funext i
     simp [Function.comp]
   rw[this,ih]
   simp
theorem zf (hc:X.calm=true):Qs X (.builtin "all") (λxs H Q=>∃(p:Addr) (bs:List Bool),xs=[.ref p]/\SqL X.K H p (bs.map V.bl)/\Q (.bl (bs.all id)) H):=by
 intro pins s σ H xs us Q I r h
 obtain⟨p,bs,rfl,hq,q⟩:=h
 obtain⟨u,rfl,rx⟩:=Q7 r
 cases rx
 obtain⟨its,rv,pl,hz⟩:=I.list hq
 have hlt:p < s.heap.objs.size:=by
   obtain⟨o,n,e,_⟩:=pl
   exact Heap.lt_size e
 have hn:its.toArray.size=bs.length:=by
   have:=rv.length
   rw[List.length_map]at this
   simp only[List.size_toArray]
   omega
 have hh:X.A.in1.handled=none:=I.ok.hd hc
 refine call_all_walk (wpAny_pyIter_list pl.isList ?_)
 refine⟨s.heap.objs.size,[s.heap.objs.size,p],[s.heap.objs.size],its.toArray.size,λi v=>its.toArray[i]?=some v,_,λi=>bs.getD i false,rfl,Walks.list hh s.heap.objs.size p (Nat.ne_of_lt hlt) its.toArray,
   ⟨⟨_,Heap.get?_push_size _ rfl,rfl,rfl⟩,pl.isList.at λo e=>Heap.get?_push_of_some _ e⟩,?_,λh' tk hk=>?_⟩
 . intro i v s' Q' E' hP hQ
   have hi:its[i]?=some v:=by simpa using hP
   have hb:∃b,bs[i]?=some b/\v=Value.bool b:=by
     cases e:bs[i]? with
     | none=>
       exfalso
       have h1:(bs.map V.bl)[i]?=none:=by rw[List.getElem?_map,e];rfl
       rw[qD.none_of rv h1]at hi
       cases hi
     | some b=>
       have h1:(bs.map V.bl)[i]?=some (V.bl b):=by rw[List.getElem?_map,e];rfl
       obtain⟨u,hu,ru⟩:=rv.get h1
       rw[hi]at hu
       cases hu
       exact⟨b,rfl,ru⟩
   obtain⟨b,e,rfl⟩:=hb
   refine wpAny_truthy_bool ?_
   have e2:bs.getD i false=b:=by rw[List.getD_eq_getElem?_getD,e];rfl
   have hQ':Q' (bs.getD i false) s':=hQ
   rw[e2]at hQ'
   exact hQ'
 . rw[hn,YT]
   refine⟨.bl (bs.all id),H,?_,rfl,q⟩
   exact I.kept (h':=h') (t':=tk) λb o e=>hk b o (by
     intro z
     have z':b=s.heap.objs.size:=by simpa using z
     exact absurd (Heap.lt_size e) (by rw[z'];exact Nat.lt_irrefl _)) (Heap.get?_push_of_some _ e)
theorem VO {ys:List Str}:∀{us:List Value},qD (ys.map V.str) us->StrsAre us ys:=by
 induction ys with
 | nil=>
   intro us r
   rw[List.map_nil]at r
   cases r
   exact .nil
 | cons y ys ih=>
   intro us r
   rw[List.map_cons]at r
   cases r with
   | cons a b=>
     obtain⟨t,rfl⟩:=a
     exact .cons _ _ (ih b)
def N0 (K:PySem.W.Frag):V->List V->Hp->VK->Prop:=λx xs H Q=>∃(sep:Str) (p:Addr) (ys:List Str),x=.str sep/\xs=[.ref p]/\SqL K H p (ys.map V.str)/\(ys.map (·.length)).sum+ys.length*sep.length<=16777216/\Q (.str (Txt.join sep ys)) H
theorem Kv:Mw X "str.join" (N0 X.K):=by
 intro pins s σ H x xs v us Q I rx rv h
 obtain⟨sep,p,ys,rfl,rfl,hq,hz,q⟩:=h
 obtain⟨t,rfl⟩:=rx
 obtain⟨u,rfl,ru⟩:=Q7 rv
 cases ru
 obtain⟨its,r',pl,_⟩:=I.list hq
 exact join_list pl.isList (by simpa using VO r') hz λt' k=>⟨.str _,H,I.tok k,⟨t',rfl⟩,q⟩
def KR:V->Value
 | .ty n=>.type n
 | .ref a=>.ref a
 | _=>.none
def Gv:V->Bool
 | .ty _=>true
 | .ref _=>true
 | _=>false
def N1 (K:PySem.W.Frag):List V->Hp->VK->Prop:=λxs H Q=>∃x c t b,xs=[x,c]/\Gv c=true/\TyOf K H x t/\PySem.W.kitOne K t (KR c)=some b/\Q (.bl b) H
theorem ji:Qs X (.builtin "isinstance") (N1 X.K):=by
 intro pins s σ H xs us Q I r h
 obtain⟨x,c,t,b,rfl,hc,ty,e,q⟩:=h
 obtain⟨u,w',rfl,ru,rw'⟩:=UD r
 have ew:w'=KR c:=by
   cases c with
   | ty n=>exact rw'
   | ref a=>exact rw'
   | _=>cases hc
 subst ew
 exact k7 I ru ty e λtk=>⟨.bl b,H,I.tok tk,rfl,q⟩
end
end L2
namespace L2
open PySem PySem.Spec PyProof.Rows
end L2
set_option Elab.async false
set_option linter.all false
set_option maxRecDepth 100000
set_option maxHeartbeats 4000000
namespace L2
open PySem PySem.Spec PyProof.Rows
abbrev NC (rest:List Value):Obj:={cls:=.type "tuple",data:=.seq rest.toArray}
abbrev R9 (C t:Addr):Obj:={cls:=.ref C,data:=.fields #[.ref t,.none,.none,.none,.bool false,.none]}
section
variable {prog:Program} {w:World} {A:Around} {E:Value->Shared->Prop} {h:Heap} {g:Array GenState} {d:Drawn} {t:Nat} {os:OsState}
variable {nm q:Str} {C N fI:Addr} {bs bm bmB bmN:List Value} {hdct:Bool} {sn:List Str} {sub:List Value} {ab:Bool} {col:Option Bool} {dd:Option Addr} {k0 k1 k2 k3 k5:Option Value} {B Bn newId nid initId inN:String} {rest:List Value} {oI:Obj}
theorem VM {Q:Fin->Shared->Prop} (Fn:ExcBaseFacts Bn newId inN bmN) (hBn:bmB.contains (.type Bn)=true)
   (F:ExcBaseFacts B nid initId bmB) (T:OwnTail h bmB bm)
   (hC:h.get? C=some (excClassObj nm q C N bs bm hdct sn sub ab col dd k0 k1 k2 k3 k5 newId))
   (hi:PySem.W.Looks (model prog w) h (typeLookup (.ref C) "__init__") (some (.ref fI))) (hfI:h.get? fI=some oI) (hfc:oI.cls=.type "function")
   (hq:∀h' e,h.objs.size<=e->Heap.MadeExcOf h h' e (.ref C) rest->
     wpAny (model prog w) A (call (.ref fI) (.ref e::rest)) (λr s'=>r=.none/\Q (.done (.ret (.ref e))) s') E ⟨h',g,d,t,os⟩)
   (hz:rest.length<=sizeLine):
   wpAny (model prog w) A (Builtin.«type.__call__» ⟨.ref C::rest,[]⟩) Q E ⟨h,g,d,t,os⟩:=by
 repeat (first
   | with_reducible refine wpAny_loadPart_at hC ?_
   | with_reducible refine wpAny_madeBy_exc hC ?_
   | wp_step)
 refine codeAny_call_builtin_code (Code.quiet_builtin _ Fn.quiet) (wpAny_check_new_subU Fn hBn T hC
   (codeAny_exc_new_subU Fn hBn F T hC ?_ hz))
 show wpAny _ _ _ _ _ _
 have k:∀b o,h.get? b=some o->((h.push (NC rest)).push (R9 C h.objs.size)).get? b=some o:=λb o e=>
   Heap.get?_push_of_some _ (Heap.get?_push_of_some _ e)
 have c1:=k _ _ hC
 have f1:=k _ _ hfI
 have i1:=hi.keeps k
 have e1:((h.push (NC rest)).push (R9 C h.objs.size)).get? (h.objs.size+1)=some (R9 C h.objs.size):=by heap_get
 have hcC:(Value.ref C::bm).contains (.ref C)=true:=by simp
 unfold isInstance
 repeat (first
   | with_reducible refine wpAny_loadPart_at e1 ?_
   | (with_reducible refine wpAny_isSubtype_exc c1 ?_;rw[hcC])
   | wp_step)
 show wpAny _ _ (typeLookup (.ref C) _) _ _ _
 refine i1.at ?_
 refine wpAny_holding (wpAny_bind ?_)
 unfold bindSpecial
 refine wpAny_bind (wpAny_typeOf (T:="function") ⟨_,f1,hfc⟩ ?_)
 rw[if_pos (by decide)]
 refine wpAny_pure (wpAny_bind (q5 (hq _ (h.objs.size+1) (Nat.le_succ _) ⟨k,Heap.get?_none_of_le (Nat.le_succ _),h.objs.size,e1,Heap.get?_none_of_le (Nat.le_refl _),?_⟩) λr s' hr=>?_))
 . exact Heap.get?_push_of_some _ (Heap.get?_push_at rfl rfl)
 . obtain⟨rfl,hQ⟩:=hr
   wp_walk
   exact hQ
theorem yq {Q:Value->Shared->Prop} (Fn:ExcBaseFacts Bn newId inN bmN) (hBn:bmB.contains (.type Bn)=true)
   (F:ExcBaseFacts B nid initId bmB) (T:OwnTail h bmB bm)
   (hC:h.get? C=some (excClassObj nm q C N bs bm hdct sn sub ab col dd k0 k1 k2 k3 k5 newId))
   (hi:PySem.W.Looks (model prog w) h (typeLookup (.ref C) "__init__") (some (.ref fI))) (hfI:h.get? fI=some oI) (hfc:oI.cls=.type "function")
   (hq:∀h' e,h.objs.size<=e->Heap.MadeExcOf h h' e (.ref C) rest->
     wpAny (model prog w) (A.under (.builtin "type.__call__" ⟨.ref C::rest,[]⟩)) (call (.ref fI) (.ref e::rest)) (λr s'=>r=.none/\Q (.ref e) s') E ⟨h',g,d,t,os⟩)
   (hz:rest.length<=sizeLine):
   wpAny (model prog w) A (call (.ref C) rest) Q E ⟨h,g,d,t,os⟩:=by
 have a1:=tc_lookup
 have a2:=tc_bind (.ref C)
 have a3:(⟨h,g,d,t,os⟩:Shared).TypeIs (.ref C) "type":=⟨_,hC,rfl⟩
 refine wpAny_call (codeAny_of_tree ?_)
 show wpAny _ _ (callAny (.ref C) _) _ _ _
 repeat (any_goals (first
   | assumption
   | with_reducible refine wpAny_loadPart_at hC ?_
   | wp_step))
 refine⟨rfl,codeAny_call_builtin_at (Code.quiet_builtin _ (by decide+kernel)) entry_typeCall
   (wpAny_check_type_call_sub hC (VM Fn hBn F T hC hi hfI hfc (λh' e he hm=>?_) hz))⟩
 exact hq h' e he hm
end
end L2
namespace L2
open PySem PySem.W PyProof.Rows Builtin Builtin.ObjectAttr
structure zG (K:Frag) (C:Addr) (bm:List Value):Prop where
 ga:findIn K (.ref C) "__getattribute__"=some (some (.builtin "BaseException.__getattribute__"))
 gt:findIn K (.ref C) "__getattr__"=some none
 sa:findIn K (.ref C) "__setattr__"=some (some (.builtin "object.__setattr__"))
 hd:hasDictIn K C=true
 mr:∃cd,clsIn K C=some cd/\cd.mro=.ref C::bm
 mb:mroIn K C (.type "BaseException")=some true
 mo:mroIn K C (.type "object")=some true
 cl:findIn K (.ref C) "__class__"=some (some (.builtin "object.__class__"))
def VZ:List Value->Prop
 | .ref _::r=>VZ r
 | l=>l=[.type "ValueError",.type "Exception",.type "BaseException",.type "object"]
theorem vd (self:Value):∀{l:List Value},VZ l->refuseLoop self "__setattr__" l=pure ()
 | .ref c::r,e=>by rw[refuseLoop_ref];exact vd self (l:=r) e
 | [],e=>nomatch (show ([]:List Value)=[.type "ValueError",.type "Exception",.type "BaseException",.type "object"] from e)
 | .type n::r,e=>by
   have e':(Value.type n::r)=[.type "ValueError",.type "Exception",.type "BaseException",.type "object"]:=e
   rw[e'];kernel_rfl
 | .none::r,e=>by have e':(Value.none::r)=[.type "ValueError",.type "Exception",.type "BaseException",.type "object"]:=e;cases e'
 | .bool _::r,e=>by have e':_=[Value.type "ValueError",.type "Exception",.type "BaseException",.type "object"]:=e;cases e'
 | .int _ _::r,e=>by have e':_=[Value.type "ValueError",.type "Exception",.type "BaseException",.type "object"]:=e;cases e'
 | .float _ _::r,e=>by have e':_=[Value.type "ValueError",.type "Exception",.type "BaseException",.type "object"]:=e;cases e'
 | .str _ _::r,e=>by have e':_=[Value.type "ValueError",.type "Exception",.type "BaseException",.type "object"]:=e;cases e'
 | .bytes _ _::r,e=>by have e':_=[Value.type "ValueError",.type "Exception",.type "BaseException",.type "object"]:=e;cases e'
 | .builtin _::r,e=>by have e':_=[Value.type "ValueError",.type "Exception",.type "BaseException",.type "object"]:=e;cases e'
section
variable {prog:Program} {w:World} {A:Around} {E:Value->Shared->Prop} {s:Shared} {K:Frag} {x C:Addr} {ox:Obj} {od:Option Obj} {bm:List Value} {name:Str} {v:Value}
theorem Kc {tk:Tok} {R:Result->Shared->Prop} (X:K.In s.heap) (I:InstAt s.heap x ox C od) (c:zG K C bm) (hb:VZ bm) (ht:findIn K (.ref C) name=some none)
   (h:∀b,wpAny (model prog w) A.in1 (storeInOwnDict (.ref x) (.ref C) (.str name tk) name v b)
     (λfin s'=>match fin with | .done f=>R (.ok f) s' | .again c'=>c'.quiet=true/\codeAny (model prog w) A c' R s') (λe s'=>R (.error e) s') s):
   codeAny (model prog w) A (.call (.builtin "object.__setattr__") ⟨[.ref x,.str name tk,v],[]⟩) R s:=by
 have SF:=PySem.F.store_object
 obtain⟨cd,hc,hm⟩:=c.mr
 have sub:Looks (model prog w) s.heap (isInstance (.ref x) (.type "object")) true:=I.type.andThen (looks_mroIn X c.mo)
 refine codeAny_call_builtin SF.slot.plain SF.entry
   (@check_slot (model prog w) _ _ s "object.__setattr__" "object" "__setattr__" (.ref x) [.str name tk,v] [] _ SF.kind SF.split sub (SF.args (.ref x) (.str name tk) v) ?_)
 have lm:Looks (model prog w) s.heap (mroOf (.ref C)) cd.mro:=(looks_clsIn X hc).andThen .now
 rw[osa_eq,refuse_eq]
 refine wpAny_bind (wpAny_bind (I.type.here (wpAny_bind (lm.here ?_))))
 rw[hm,refuseLoop_ref,vd _ hb]
 refine wpAny_pure (wpAny_bind (I.type.here (wpAny_bind ((looks_findIn X ht).here ?_))))
 exact wpAny_bind (wpAny_pure (h _))
theorem yT {Q:Unit->Shared->Prop} (X:K.In s.heap) (hx:s.heap.get? x=some ox) (hc:ox.cls=.ref C) (hdc:ox.dict=none) (hda:∃fl,ox.data=.fields fl) (c:zG K C bm) (hb:VZ bm) (ht:findIn K (.ref C) name=some none)
   (h:∀h' tk,h'.get? x=some {ox with dict:=some s.heap.objs.size}->h'.Ns1 s.heap.objs.size (λy=>if y=name then some v else none)->
     (∀b o,b≠x->s.heap.get? b=some o->h'.get? b=some o)->Q () {s with heap:=h',toks:=tk}):
   wpAny (model prog w) A (setAttr (.ref x) name v) Q E s:=by
 obtain⟨fl,hfl⟩:=hda
 obtain⟨oc,odi,oda,osl⟩:=ox
 dsimp only at hc hdc hfl
 subst hc hdc hfl
 have I:InstAt s.heap x ⟨.ref C,none,.fields fl,osl⟩ C none:=⟨hx,rfl,rfl,trivial⟩
 refine set_plain X I c.sa (Kc (s:={s with toks:=s.toks+1}) X I c hb ht λb=>?_)
 obtain⟨cd,hcd,hdd⟩:=any_some c.hd
 refine wpAny_bind (wpAny_pure (wpAny_bind (wpAny_bind (wpAny_loadPart hx (wpAny_bind (Looks.here (s:={s with toks:=s.toks+1}) (looks_clsIn X hcd) ?_))))))
 rw[hdd]
 have hne:x≠s.heap.objs.size:=Nat.ne_of_lt (Heap.lt_size hx)
 have h1:=Heap.get?_push_of_some PySem.W.emptyDict hx
 refine wpAny_bind (wpAny_alloc (wpAny_bind (wpAny_update h1 ?_)))
 generalize hh2:(s.heap.push emptyDict).update x (λo=>{o with dict:=some s.heap.objs.size})=h2
 have e2:h2.get? x=some ⟨.ref C,some s.heap.objs.size,.fields fl,osl⟩:=by rw[<-hh2];exact Heap.get?_update_self _ h1 rfl
 have k2:∀b o,b≠x->(s.heap.push emptyDict).get? b=some o->h2.get? b=some o:=λb o hb e=>by rw[<-hh2,Heap.get?_update_other _ _ (Ne.symm hb)];exact e
 have n0:(s.heap.push emptyDict).Ns s.heap.objs.size (λ_=>none):=⟨emptyDict,#[],_,Heap.get?_push_size s.heap rfl,rfl,(λe he=>absurd he (by simp)),λ_=>rfl⟩
 have n2:h2.Ns1 s.heap.objs.size (λ_=>none):=(Heap.Ns1.of_empty n0).at λo q=>k2 _ o (Ne.symm hne) q
 refine wpAny_pure (a:=some s.heap.objs.size) (wpAny_bind (wpAny_pure (wpAny_bind ?_)))
 refine wpAny_nsSet1 (s:={s with heap:=h2,toks:=s.toks+1}) n2 λh' hn2 hs2=>?_
 obtain⟨oD,esD,epD,hoD,hdD,hcD⟩:=hn2.count (PySem.Within.cons name v PySem.Within.nil)
 refine wpAny_bind (wpAny_lookBehind hoD (by rw[hdD];exact pastItsLine_dict (Nat.le_trans hcD (by show 1<=sizeLine+1;decide))) ?_)
 refine wpAny_pure (h h' (s.toks+1+1) ((hs2.2 x hne).trans e2) hn2 λb o hb e=>?_)
 exact(hs2.2 b (Nat.ne_of_lt (Heap.lt_size e))).trans (k2 b o hb (Heap.get?_push_of_some _ e))
theorem vx {fill expr:Bool} {tk:Tok} {Q:Value->Shared->Prop} (X:K.In s.heap) (I:InstAt s.heap x ox C od) (c:zG K C bm)
   (h:wpAny (model prog w) A.in1 (Builtin.«object.__getattribute__» ⟨[.ref x,.str name tk],[]⟩) (λfin s'=>match fin with | .done (.ret u)=>handedIn u=true/\Q u s' | _=>False) (λ_ _=>False) s):
   wpAny (model prog w) A (getAttrBy (.ref x) (.str name tk) fill expr) Q E s:=by
 have ga:=PySem.F.attr_ValueError.ga
 have L1:=looks_findIn (M:=model prog w) X c.ga
 have L2:=looks_findIn (M:=model prog w) X c.gt
 have hk:builtinKind "BaseException.__getattribute__"=some .slot:=by decide+kernel
 have hs:splitId "BaseException.__getattribute__"=some ("BaseException","__getattribute__"):=by decide+kernel
 have sub:Looks (model prog w) s.heap (isInstance (.ref x) (.type "BaseException")) true:=I.type.andThen (looks_mroIn X c.mb)
 unfold getAttrBy
 refine wpAny_holding (wpAny_bind (I.type.here (wpAny_bind (L1.here ?_))))
 dsimp only
 have eb:(Value.builtin "BaseException.__getattribute__"==Value.builtin "object.__getattribute__")=false:=by decide+kernel
 rw[if_neg (by rw[eb,Bool.and_false];decide)]
 unfold getAttrByItsOwn
 refine wpAny_bind (show wpAny _ _ (hookBefore (.ref C)) _ _ _ from L2.here ?_)
 refine wpAny_bind (wpAny_attempt (wpAny_holding ?_))
 unfold callGetattribute
 have e0:(expr&&onTheHeap (Value.builtin "BaseException.__getattribute__"))=false:=by cases expr<;>rfl
 rw[if_neg (by rw[e0];decide)]
 unfold boundAndCalled
 rw[ga.bind]
 refine wpAny_bind (wpAny_pure ?_)
 refine wpAny_call (codeAny_call_builtin ga.plain PySem.F.entry_bexc_ga
   (@check_slot (model prog w) _ _ s "BaseException.__getattribute__" "BaseException" "__getattribute__" (.ref x) [.str name tk] [] _ hk hs sub (PySem.F.args_bexc_ga _ _) ?_))
 refine wpAny_mono h (λfin s' z=>?_) λ_ _ z=>z.elim
 cases fin with
 | again c'=>exact z.elim
 | done f=>
   cases f with
   | next=>exact z.elim
   | brk=>exact z.elim
   | cont=>exact z.elim
   | ret u=>
     obtain⟨hh,q⟩:=z
     show wpAny _ _ (handedOut u) _ _ _
     rw[handedOut_of hh]
     exact wpAny_pure q
theorem KJ {expr:Bool} {Q:Value->Shared->Prop} {odd:Obj} (X:K.In s.heap) (I:InstAt s.heap x ox C (some odd)) (c:zG K C bm) (ha:findIn K (.ref C) name=some none) (hl:lookIn name odd=some (some v)) (hv:handedIn v=true)
   (h:Q v {s with toks:=s.toks+1}):wpAny (model prog w) A (getAttr (.ref x) name expr) Q E s:=by
 have hf:findObj K C (some odd) name=some (.value v):=findObj_own c.hd ha rfl hl
 have LF:=looks_find (M:=model prog w) X I hf
 unfold getAttr
 refine wpAny_bind (wpAny_mkText (vx (s:={s with toks:=s.toks+1}) X I c ?_))
 unfold Builtin.«object.__getattribute__»
 refine wpAny_bind (wpAny_pure (wpAny_bind (wpAny_pure (wpAny_bind (Looks.here (s:={s with toks:=s.toks+1}) I.type (wpAny_bind (Looks.here (s:={s with toks:=s.toks+1}) LF ?_)))))))
 exact wpAny_pure ⟨hv,h⟩
end
end L2
namespace L2
open PySem PySem.W PyProof.Rows Builtin Builtin.ObjectAttr
section
variable {K:Frag} {x C:Addr} {ox odd:Obj} {bm:List Value}
theorem x2 (c:zG K C bm) (hn:specialIn K (.builtin "object.__class__") "__get__"=some (some (.builtin "getset_descriptor.__get__"))) (htk:takesIn K (.builtin "object.__class__")=some true):
   KitX K (.ref x) (.ref C) (λh=>InstAt h x ox C (some odd)) where
 ty:=λ_ _ _ I=>I.type
 it:=λ_ _ X _=>by
   obtain⟨cd,hcd,_⟩:=any_some c.hd
   unfold clsIn at hcd
   split at hcd
   . rename_i _ _ _ _ ho
     intro A' Q' E' s' k q
     unfold isType loadHead
     exact wpAny_bind (wpAny_loadPart (k _ _ (X _ _ ho)) (wpAny_pure q))
   . cases hcd
 ne:=λh tp dd its n sl X htp=>by
   obtain⟨cd,hcd,_⟩:=any_some c.hd
   refine Bool.eq_false_iff.mpr λq=>?_
   have e:C=tp:=Value.ref.inj (beq_iff_eq.mp q)
   subst e
   unfold clsIn at hcd
   split at hcd
   . rename_i _ _ _ _ ho
     have z:=(X _ _ ho).symm.trans htp
     cases z
   . cases hcd
 ca:=λ{prog w A E Q s} X I k=>by
   have hf:findObj K C (some odd) "__class__"=some (.bind (.builtin "getset_descriptor.__get__") (.builtin "object.__class__")):=
     findObj_data (by obtain⟨cd,hc,_⟩:=any_some c.hd;rw[hc];rfl) c.cl hn htk
   have LF:=looks_find (M:=model prog w) X I hf
   unfold getAttr? getAttrBy?
   refine wpAny_bind (wpAny_mkText (wpAny_bind (wpAny_attempt (vx (s:={s with toks:=s.toks+1}) X I c ?_))))
   unfold Builtin.«object.__getattribute__»
   refine wpAny_bind (wpAny_pure (wpAny_bind (wpAny_pure (wpAny_bind (Looks.here (s:={s with toks:=s.toks+1}) I.type (wpAny_bind (Looks.here (s:={s with toks:=s.toks+1}) LF ?_)))))))
   dsimp only
   unfold bindTo
   dsimp only
   refine wpAny_bind (wpAny_holding (wpAny_call (class_get (s:={s with toks:=s.toks+1}) X I c.mo ?_)))
   exact wpAny_pure ⟨rfl,wpAny_pure k⟩
end
end L2
set_option Elab.async false
set_option linter.all false
set_option maxRecDepth 100000
set_option maxHeartbeats 4000000
namespace L2
open PySem PySem.Spec PyProof.Rows
def zd (e C:Addr):HO:=.ext λh=>∃fl,h.get? e=some {cls:=.ref C,data:=.fields fl}/\fl[1]?=some Value.none
def Q5 (e C dx:Addr) (hd:Value):HO:=.ext λh=>∃fl,h.get? e=some {cls:=.ref C,dict:=some dx,data:=.fields fl}/\fl[1]?=some hd
abbrev Ze (e C dx:Addr):HO:=Q5 e C dx .none
def Qq:List Value:=[.type "ValueError",.type "Exception",.type "BaseException",.type "object"]
structure Mz (K:PySem.W.Frag) (C f:Addr) (bm:List Value):Prop where
 obj:∃nm q N bs hdct sn sub ab col dd k0 k1 k2 k3 k5,K.lookup C=some (excClassObj nm q C N bs bm hdct sn sub ab col dd k0 k1 k2 k3 k5 "ValueError.__new__")
 tail:∀h:Heap,K.In h->OwnTail h Qq bm
 init:PySem.W.findIn K (.ref C) "__init__"=some (some (.ref f))
 fn:PySem.W.isFn K (.ref f)=true
 kp:PySem.W.keepIn K (.ref C)=true
section
variable {P:Program} {w:World} {H:Hp} {h h':Heap} {e C dx:Addr}
theorem KN (he:∃fl,h.get? e=some {cls:=.ref C,data:=.fields fl}/\fl[1]?=some Value.none):qG P w H h e (zd e C):=by
 obtain⟨fl,q,z⟩:=he
 exact⟨⟨fl,q,z⟩,⟨_,q⟩,λh1 h2 ⟨fl',q',z'⟩ k=>⟨fl',k _ q',z'⟩⟩
theorem zZ {hd:Value} (he:∃fl,h.get? e=some {cls:=.ref C,dict:=some dx,data:=.fields fl}/\fl[1]?=some hd):qG P w H h e (Q5 e C dx hd):=by
 obtain⟨fl,q,z⟩:=he
 exact⟨⟨fl,q,z⟩,⟨_,q⟩,λh1 h2 ⟨fl',q',z'⟩ k=>⟨fl',k _ q',z'⟩⟩
end
section
variable {X:Cx} {pins:List (Addr×Obj)} {σ:St} {H:Hp} {s:Shared} {e C dx:Addr} {f:Str} {bm:List Value} {y v:V} {u:Value} {A:Around} {E:Value->Shared->Prop}
theorem qx.excSet {h':Heap} {t':Nat} {fs:List (Str×V)} (I:qx X pins σ H s) (hH:H e=some (zd e C)) (hd:s.heap.objs.size<=dx)
   (h1:∃fl,h'.get? e=some {cls:=.ref C,dict:=some dx,data:=.fields fl}/\fl[1]?=some Value.none) (h2:∃mA,h'.Ns1 dx mA/\∀f,Ji (fs.lookup f) (mA f))
   (k:∀b o,b≠e->s.heap.get? b=some o->h'.get? b=some o):qx X pins σ (upd (upd H e (Ze e C dx)) dx (.xd fs)) {s with heap:=h',toks:=t'}:=by
 have mu:No (H e):=by rw[hH];exact trivial
 have heo:∃u,h'.get? e=some u:=let ⟨_,q,_⟩:=h1;⟨_,q⟩
 have hn:H dx=none:=I.hok.fresh hd
 have ne:dx≠e:=λz=>by rw[z,hH]at hn;cases hn
 have U:Un X.fs [] H (upd H e (Ze e C dx)) s.heap h':=Un.write mu (.inl rfl) k heo
 have W:Jk X.prog X.w (upd H e (Ze e C dx)) h':=I.hok.write mu (.inl rfl) k heo (zZ h1)
 have hn2:(upd H e (Ze e C dx)) dx=none:=by rw[qh ne];exact hn
 have nb:∀b o,s.heap.get? b=some o->b≠dx:=λb o q=>Nat.ne_of_lt (Nat.lt_of_lt_of_le (Heap.lt_size q) hd)
 refine I.un ⟨U.keep,U.slot,λb o q n hx=>?_,U.there,λb xs q=>?_,λb o z q=>?_,λb ps q=>?_⟩ λb o q=>?_
 . rw[qh (nb b o q)];exact U.free b o q n hx
 . have:=U.tups b xs q
   rw[qh (qo this hn2)];exact this
 . have:=U.frzs b o z q
   rw[qh (qo this hn2)];exact this
 . obtain⟨m,q'⟩:=U.tbls b ps q
   exact⟨m,by rw[qh (qo q' hn2)];exact q'⟩
 . by_cases hb:b=dx
   . subst hb
     rw[qd]at q
     cases q
     exact h2
   . rw[qh hb]at q
     exact(W b o q).stay (λ_ _ _ z=>z) (λc z=>by rw[qh (qo z hn2)];exact z) λc xs z=>by rw[qh (qo z hn2)];exact z
theorem kl {Q:Unit->Shared->Prop} (I:qx X pins σ H s) (hH:H e=some (zd e C)) (c:zG X.K C bm) (hb:VZ bm) (n:jF X.K C f) (ry:qK y u)
   (h:∀dx s',H dx=none->qx X pins σ (upd (upd H e (Ze e C dx)) dx (.xd [(f,y)])) s'->Q () s'):wpAny (model X.prog X.w) A (setAttr (.ref e) f u) Q E s:=by
 obtain⟨⟨fl,he,hz⟩,_,_⟩:=(show qG X.prog X.w H s.heap e (zd e C) from I.hok e _ hH)
 refine yT I.kIn he rfl rfl ⟨fl,rfl⟩ c hb n λh' tk e1 e2 e3=>?_
 refine h s.heap.objs.size _ (I.hok.fresh (Nat.le_refl _)) (I.excSet hH (Nat.le_refl _) ⟨fl,e1,hz⟩ ⟨_,e2,λg=>?_⟩ e3)
 by_cases hg:g=f
 . subst hg
   rw[List.lookup_cons]
   simp only[beq_self_eq_true,if_true]
   exact ry
 . have hb':(g==f)=false:=beq_eq_false_iff_ne.mpr hg
   rw[List.lookup_cons]
   simp only[hb',hg,if_false]
   exact trivial
theorem yh {b:Bool} {Q:Value->Shared->Prop} {fs:List (Str×V)} {hd:Value} (I:qx X pins σ H s) (hH:H e=some (Q5 e C dx hd)) (hx:H dx=some (.xd fs)) (c:zG X.K C bm) (n:jF X.K C f) (l:fs.lookup f=some v)
   (h:∀u s',qx X pins σ H s'->qK v u->Q u s'):wpAny (model X.prog X.w) A (getAttr (.ref e) f b) Q E s:=by
 obtain⟨⟨fl,he,_⟩,_,_⟩:=(show qG X.prog X.w H s.heap e (Q5 e C dx hd) from I.hok e _ hH)
 obtain⟨mA,hn,hr⟩:=(show qG X.prog X.w H s.heap dx (.xd fs) from I.hok dx _ hx)
 obtain⟨od,ho,hl⟩:=Z4 hn
 have r:=hr f
 rw[l]at r
 obtain⟨u,eu,ru⟩:=Ji.some_of r
 exact KJ I.kIn ⟨he,rfl,rfl,ho⟩ c n (by rw[hl,eu]) (Xo ru) (h u _ (I.tok _) ru)
theorem wu {cV:Value} {b:Bool} {Q:Value->Shared->Prop} {fs:List (Str×V)} {hd:Value} (I:qx X pins σ H s) (hH:H e=some (Q5 e C dx hd)) (hx:H dx=some (.xd fs)) (c:zG X.K C bm)
   (hn:PySem.W.specialIn X.K (.builtin "object.__class__") "__get__"=some (some (.builtin "getset_descriptor.__get__"))) (htk:PySem.W.takesIn X.K (.builtin "object.__class__")=some true)
   (ek:PySem.W.kitOne X.K (.ref C) cV=some b) (h:∀tk,Q (.bool b) {s with toks:=tk}):wpAny (model X.prog X.w) A (call (.builtin "isinstance") [.ref e,cV]) Q E s:=by
 obtain⟨⟨fl,he,_⟩,_,_⟩:=(show qG X.prog X.w H s.heap e (Q5 e C dx hd) from I.hok e _ hH)
 obtain⟨mA,hns,hr⟩:=(show qG X.prog X.w H s.heap dx (.xd fs) from I.hok dx _ hx)
 obtain⟨od,ho,hl⟩:=Z4 hns
 exact PySem.W.kia_one (x2 (ox:={cls:=.ref C,dict:=some dx,data:=.fields fl}) (odd:=od) c hn htk) I.kIn ⟨he,rfl,rfl,ho⟩ ek (λz=>nomatch z) h
end
end L2
namespace L2
open PySem PySem.Spec PyProof.Rows
def M6 (K:PySem.W.Frag) (bm:List Value) (ta tv:TE) (f:Str):TS:=λD σ H=>tv σ H λy H1=>ta σ H1 λx H2=>∃a C,x=.ref a/\H2 a=some (zd a C)/\zG K C bm/\VZ bm/\jF K C f/\
 ∀dx,H2 dx=none->D.nx σ (upd (upd H2 a (Ze a C dx)) dx (.xd [(f,y)]))
section
variable {X:Cx} {CX:XB} {k:Nat} {C fI:Addr} {fd:FuncData} {ps:List Str} {sp:Sp} {E:XK} {x f:Str} {o e value:Expr} {es:List Expr} {p pos pos':Pos} {ta tv:TE} {t:TA} {bm:List Value}
theorem RS (ha:JE X o ta) (hv:JE X value tv) (hs:swapsWith value (some (.Attribute o f pos')) pos.line X.env=pure false):JS X (.Assign [.Attribute o f pos'] value pos) (M6 X.K bm ta tv f):=.of (by
 have ha:=ha.to
 have hv:=hv.to
 intro pins s σ H D I h
 refine plainObj_wpAny_Assign_Attribute (q5 (hv pins s σ H _ I h) λu s1 ⟨y,H1,I1,ry,q⟩=>
   q5 (ha pins s1 σ H1 _ I1 q) λov s2 ⟨x,H2,I2,rx,a,C,ex,ea,c,hb,n,q2⟩=>?_) hs
 subst ex
 obtain rfl:ov=Value.ref a:=rx
 exact kl I2 ea c hb n ry λdx s3 hdx I3=>⟨σ,_,I3,q2 dx hdx⟩)
theorem kr {pins:List (Addr×Obj)} {σ:St} {H:Hp} {s:Shared} {Q:VK} {us:List Value} {vs:List V} (M:Mz X.K C fI bm) (F:qm X.prog X.w X.K X.mg X.base CX k fI fd ps sp) (hr:qW (k+1) X.A) (hb:jx X.K fd ps [])
   (hx:Ql CX X E) (I:qx X pins σ H s) (r:qD vs us) (hz:us.length<=sizeLine)
   (h:∀x,H x=none->sp (.ref x::vs) (upd H x (zd x C)) (λv H2=>v=.non/\Q (.ref x) H2) E):
   wpAny (model X.prog X.w) X.A (call (.ref C) us) (EP X pins σ Q) X.xe s:=by
 obtain⟨nm,q,N,bs,hdct,sn,sub,ab,col,dd,k0,k1,k2,k3,k5,hC⟩:=M.obj
 have hfn:PySem.W.typeIn X.K (.ref fI)=some (.type "function"):=beq_iff_eq.mp M.fn
 obtain⟨oI,ho,hoc⟩:=Option.map_eq_some_iff.mp hfn
 have KX:=I.kIn
 obtain⟨hp,g,d,tk,os⟩:=s
 refine yq PySem.F.excBase_ValueError (by decide+kernel) PySem.F.excBase_ValueError (M.tail _ KX) (KX _ _ hC) (PySem.W.looks_findIn KX M.init) (KX _ _ ho) hoc (λh' ex hle hm=>?_) hz
 obtain⟨t0,ht,_,_⟩:=hm.there
 have I2:qx X pins σ (upd H ex (zd ex C)) ⟨h',g,d,tk,os⟩:=I.laid (t':=tk) hm.keeps hle (KN ⟨_,ht,rfl⟩)
 have hq:=h ex (I.hok.fresh hle)
 have r2:qD (V.ref ex::vs) (Value.ref ex::us):=.cons rfl r
 have hl:(Value.ref ex::us++[]).length=ps.length:=by
   have e:=r2.length
   rw[F.len _ _ _ _ hq]at e
   rw[List.append_nil]
   exact e.symm
 have bb:=hb ⟨h',g,d,tk,os⟩ (Value.ref ex::us) I2.kIn hl
 rw[List.append_nil]at bb
 refine wpAny_call (codeAny_mono (F.run _ X.stack _ _ ⟨Value.ref ex::us,[]⟩ (Value.ref ex::us) _ _ E (hr.make C us []) (I2.env0.make C us []) bb r2 hq) λr s' hq'=>?_)
 cases r with
 | error z=>exact hx pins σ _ _ z s' I2 hq'
 | ok fl=>
   cases fl with
   | ret u=>
     obtain⟨v,H',I3,rv,ev,q3⟩:=I2.after hq'
     subst ev
     exact⟨rv,⟨V.ref ex,H',I3,rfl,q3⟩⟩
   | next=>exact False.elim hq'
   | brk=>exact False.elim hq'
   | cont=>exact False.elim hq'
theorem we (M:Mz X.K C fI bm) (F:qm X.prog X.w X.K X.mg X.base CX k fI fd ps sp) (hr:qW (k+1) X.A) (hg:Gl X x) (hm:X.mg x=some (.ref C)) (hb:jx X.K fd ps []) (hx:Ql CX X E) (ha:JA X (e::es) t) (hz:(e::es).length<=1000:=by decide) (hv:∀vs us,qD vs us->vs.length<=sizeLine->us.length<=sizeLine:=by intro vs us r h;rw[<-r.length];exact h) (hdb:(x==("__debug__":Str))=false:=by decide) (he:starEach (e::es) X.env=(false,eval e X.env)::starEach es X.env:=by rfl) (hpl:(backTo pos (starEach es X.env)).any (·.1)=false:=by rfl):JE X (.Call (.Name x p) (e::es) [] pos) (λσ H Q=>t σ H λvs H1=>vs.length<=sizeLine/\∀x,H1 x=none->sp (.ref x::vs) (upd H1 x (zd x C)) (λv H2=>v=.non/\Q (.ref x) H2) E):=.of (by
 have ha:=ha.to
 intro pins s σ H Q I h
 refine wpAny_Call_Name_kw (zS I hg hm ?_ hdb)
 refine PySem.W.callWith_K (h₀:=X.base) I.ok.mod.kin M.kp (q5 (ha pos pins s σ H _ I h) λus s1 ⟨vs,H1,I1,r,q⟩=>⟨I1.kIn,?_⟩) he hpl
 exact kr M F hr hb hx I1 r (hv vs us r q.1) q.2)
end
end L2
set_option Elab.async false
set_option linter.all false
set_option maxRecDepth 100000
set_option maxHeartbeats 4000000
namespace L2
open PySem PySem.Spec PyProof.Rows
def neL (xs ys:List V):Bool:=if xs.length=ys.length then !((List.range xs.length).all λj=>yu (xs.getD j .non) (ys.getD j .non)) else true
mutual
inductive DV (K:PySem.W.Frag) (H:Hp):V->PyData->Prop
 | non:DV K H .non .none
 | bl (b:Bool):DV K H (.bl b) (.bool b)
 | int (i:Int):DV K H (.int i) (.int i)
 | str (x:Str):DV K H (.str x) (.str x)
 | lst {a:Addr} {xs:List V} {ds:List PyData}:SqL K H a xs->DVs K H xs ds->DV K H (.ref a) (.list ds)
 | tup {a:Addr} {xs:List V} {ds:List PyData}:SqT K H a xs->DVs K H xs ds->DV K H (.ref a) (.tuple ds)
inductive DVs (K:PySem.W.Frag) (H:Hp):List V->List PyData->Prop
 | nil:DVs K H [] []
 | cons {x:V} {xs:List V} {d:PyData} {ds:List PyData}:DV K H x d->DVs K H xs ds->DVs K H (x::xs) (d::ds)
end
section
variable {X:Cx} {pins:List (Addr×Obj)} {σ:St} {H:Hp} {s:Shared}
mutual
theorem DV.reads (I:qx X pins σ H s):∀{x:V} {d:PyData},DV X.K H x d->∀{u:Value},qK x u->∃as,Reads s.heap u d as
 | _,_,.non,u,r=>by cases (show u=Value.none from r);exact⟨_,.none⟩
 | _,_,.bl b,u,r=>by cases (show u=Value.bool b from r);exact⟨_,.bool b⟩
 | _,_,.int i,u,r=>by obtain⟨t,q⟩:=(show ∃t,u=Value.int i t from r);subst q;exact⟨_,.int i t⟩
 | _,_,.str x,u,r=>by obtain⟨t,q⟩:=(show ∃t,u=Value.str x t from r);subst q;exact⟨_,.str x t⟩
 | _,_,.lst (a:=a) hq hs,u,r=>by
   cases (show u=Value.ref a from r)
   obtain⟨its,rv,⟨o,n,e,hc,hd,hda⟩,hz⟩:=I.list hq
   obtain⟨as,ra⟩:=DVs.reads I hs rv
   exact⟨_,.list e hc hda (by simpa using ra)⟩
 | _,_,.tup (a:=a) hq hs,u,r=>by
   cases (show u=Value.ref a from r)
   obtain⟨its,rv,⟨o,e,hc,n,hda⟩,hz⟩:=I.tuple hq
   obtain⟨as,ra⟩:=DVs.reads I hs rv
   exact⟨_,.tuple e hc hda (by simpa using ra)⟩
theorem DVs.reads (I:qx X pins σ H s):∀{xs:List V} {ds:List PyData},DVs X.K H xs ds->∀{us:List Value},qD xs us->∃as,ReadsAll s.heap us ds as
 | _,_,.nil,_,.nil=>⟨_,.nil⟩
 | _,_,.cons h hs,_,.cons r rs=>by
   obtain⟨as,a⟩:=DV.reads I h r
   obtain⟨bs,b⟩:=DVs.reads I hs rs
   exact⟨_,.cons a b⟩
end
end
end L2
namespace L2
open PySem PySem.Spec PyProof.Rows
end L2
set_option Elab.async false
set_option linter.all false
set_option maxRecDepth 100000
set_option maxHeartbeats 4000000
namespace L2
open PySem PySem.Spec PyProof.Rows
structure vS (fs:List Addr) (ex:List Addr) (h h':Heap):Prop where
 keep:∀b o,b∉fs->b∉ex->h.get? b=some o->h'.get? b=some o
 slot:∀b o,b∈fs->b∉ex->h.get? b=some o->∃sl,h'.get? b=some {o with slots:=sl}
def Gy (T:Addr) (fl:Value) (h:Heap):Prop:=∃ts,h.get? T=some {cls:=.type "traceback",data:=.fields ts}/\ts[3]?=some fl
section
variable {M:Model} {A:Around} {E:Value->Shared->Prop} {s:Shared} {base:Heap} {env:Env} {outer:List Env} {L e:Addr} {cl head:Value} {d:Option Addr} {vs:Array Value} {had:Bool} {Q:Unit->Shared->Prop}
theorem yA (fr:A.frames=some (env::outer)) (ff:s.heap.FunFrames base (env::outer)) (fm:env.frame=some L)
   (he:s.heap.get? e=some {cls:=cl,dict:=d,data:=.fields vs}) (sz:1 < vs.size)
   (k:∀h' T,s.heap.objs.size<=T->vS (zD (env::outer)) [e] s.heap h'->h'.get? e=some {cls:=cl,dict:=d,data:=.fields (vs.setIfInBounds 1 (.ref T))}->Gy T (rawInt L) h'->Q () {s with heap:=h'}):
   wpAny M A (frameOf env >>= λa=>entryPlaceOf L had >>= λpl=>EntryCells.newEntry head a .none (rawInt L) .none pl >>= λb=>setField (.ref e) 1 b) Q E s:=by
 have out:e∉zD (env::outer):=λz=>by
   obtain⟨_,o,ho,nf⟩:=ff.mem z
   rw[he]at ho
   cases ho
   exact nf vs rfl
 refine wpAny_bind (wpAny_frameOf_fun fr ff fm λh1 so=>?_)
 refine wpAny_bind (wpAny_entryPlaceOf λpl ip=>?_)
 have e1:h1.get? e=some {cls:=cl,dict:=d,data:=.fields vs}:=(so.2.1 e out).trans he
 unfold EntryCells.newEntry newFields
 refine wpAny_bind (wpAny_newObj_type ?_ (ip.sizeOk5 _ _ _ _ _))
 have ne:e≠h1.objs.size:=Nat.ne_of_lt (Heap.lt_size e1)
 refine wpAny_setField (Heap.get?_push_of_some _ e1) rfl sz (k _ h1.objs.size (Nat.le_of_eq so.1.symm) ⟨λb o n1 n2 q=>?_,λb o n1 n2 q=>?_⟩ ?_ ⟨_,(Heap.get?_update_other _ _ ne).trans (Heap.get?_push_size _ rfl),?_⟩)
 . have n3:b≠e:=λz=>n2 (by simp [z])
   rw[Heap.get?_update_other _ _ (Ne.symm n3)]
   exact Heap.get?_push_of_some _ ((so.2.1 b n1).trans q)
 . have n3:b≠e:=λz=>n2 (by simp [z])
   obtain⟨sl,r⟩:=so.2.2 b o q
   exact⟨sl,by rw[Heap.get?_update_other _ _ (Ne.symm n3)];exact Heap.get?_push_of_some _ r⟩
 . exact Heap.get?_update_self _ (Heap.get?_push_of_some _ e1) rfl
 . rcases ip with rfl | ⟨_,_,_,_,_,_,_,rfl⟩<;>simp
theorem xN (fr:A.frames=some (env::outer)) (ff:s.heap.FunFrames base (env::outer)) (fm:env.frame=some L)
   (he:s.heap.get? e=some {cls:=cl,dict:=d,data:=.fields vs}) (h1:vs[1]?=some .none)
   (k:∀h' T,s.heap.objs.size<=T->vS (zD (env::outer)) [e] s.heap h'->h'.get? e=some {cls:=cl,dict:=d,data:=.fields (vs.setIfInBounds 1 (.ref T))}->Gy T (rawInt L) h'->Q () {s with heap:=h'}):
   wpAny M A (noteFrame (.ref e) env) Q E s:=by
 unfold noteFrame
 simp only[fm]
 refine wpAny_bind (wpAny_field he rfl h1 ?_)
 rw[if_neg (show ¬((Value.none != Value.none)=true) by decide)]
 exact yA fr ff fm he (Array.getElem?_eq_some_iff.mp h1).1 k
theorem vn {T:Addr} (fr:A.frames=some (env::outer)) (ff:s.heap.FunFrames base (env::outer)) (fm:env.frame=some L)
   (he:s.heap.get? e=some {cls:=cl,dict:=d,data:=.fields vs}) (h1:vs[1]?=some (.ref T)) (st:Gy T .none s.heap) (ne:T≠e)
   (k:∀h' T',s.heap.objs.size<=T'->vS (zD (env::outer)) [e,T] s.heap h'->(∃o,h'.get? T=some o)->h'.get? e=some {cls:=cl,dict:=d,data:=.fields (vs.setIfInBounds 1 (.ref T'))}->Gy T' (rawInt L) h'->Q () {s with heap:=h'}):
   wpAny M A (noteFrame (.ref e) env) Q E s:=by
 obtain⟨ts,ht,h3⟩:=st
 unfold noteFrame
 simp only[fm]
 refine wpAny_bind (wpAny_field he rfl h1 ?_)
 rw[if_pos (show (Value.ref T != Value.none)=true by simp)]
 refine wpAny_bind (wpAny_field ht rfl h3 ?_)
 rw[if_neg (show ¬((Value.none==rawInt L)=true) by simp [rawInt])]
 refine wpAny_bind (wpAny_setField ht rfl (Array.getElem?_eq_some_iff.mp h3).1 ?_)
 have oth:∀b,b≠T->(s.heap.update T (Obj.mapFields (·.setIfInBounds 3 Value.none))).get? b=s.heap.get? b:=λb n=>Heap.get?_update_other _ _ (Ne.symm n)
 have tno:T∉zD (env::outer):=λz=>by
   obtain⟨_,o,ho,nf⟩:=ff.mem z
   rw[ht]at ho
   cases ho
   exact nf ts rfl
 refine yA fr (ff.of_keeps λb o hb nf=>⟨o,(oth b λz=>?_).trans hb,rfl⟩) fm ((oth e (Ne.symm ne)).trans he) (Array.getElem?_eq_some_iff.mp h1).1 λh' T' hT F q1 q2=>?_
 . rw[z,ht]at hb
   cases hb
   exact nf ts rfl
 . have upT:=Heap.get?_update_self (Obj.mapFields (·.setIfInBounds 3 Value.none)) ht rfl
   refine k h' T' (Nat.le_trans (Nat.le_of_eq (by simp)) hT) ⟨λb o n1 n2 q=>?_,λb o n1 n2 q=>?_⟩ ⟨_,F.keep T _ tno (by simp [ne]) upT⟩ q1 q2
   . simp only[List.mem_cons,List.not_mem_nil,or_false,not_or]at n2
     exact F.keep b o n1 (by simp [n2.1]) ((oth b n2.2).trans q)
   . simp only[List.mem_cons,List.not_mem_nil,or_false,not_or]at n2
     exact F.slot b o n1 (by simp [n2.1]) ((oth b n2.2).trans q)
theorem Jt {T:Addr} {fl:Value} {fs:List Addr} (he:s.heap.get? e=some {cls:=cl,dict:=d,data:=.fields vs}) (h1:vs[1]?=some (.ref T)) (st:Gy T fl s.heap)
   (k:∀h',vS fs [T] s.heap h'->Gy T .none h'->Q () {s with heap:=h'}):wpAny M A (setFlight (.ref e) none) Q E s:=by
 obtain⟨ts,ht,h3⟩:=st
 have lt:=(Array.getElem?_eq_some_iff.mp h3).1
 refine wpAny_setFlight_none he rfl h1 ht rfl lt (k _ ⟨λb o _ n q=>?_,λb o _ n q=>⟨o.slots,?_⟩⟩ ⟨_,Heap.get?_update_self _ ht rfl,by simp [lt]⟩)
 all_goals
   rw[Heap.get?_update_other _ _ λz=>n (by simp [z])]
   exact q
end
structure YU (ex:List Addr) (n:Nat) (H H':Hp):Prop where
 ext:∀b∈ex,∃φ,H b=some (.ext φ)
 same:∀b o,b∉ex->H b=some o->H' b=some o
 no:∀b,b < n->H b=none->H' b=none
section
variable {P:Program} {w:World} {fs ex:List Addr} {H H':Hp} {h h':Heap}
theorem YU.out {n:Nat} (t:YU ex n H H') {b:Addr} {o:HO} (q:H b=some o) (hn:∀φ,o≠.ext φ):b∉ex:=λz=>by
 obtain⟨φ,e⟩:=t.ext b z
 rw[q]at e
 cases e
 exact hn φ rfl
theorem YU.out0 {n:Nat} (t:YU ex n H H') {b:Addr} (q:H b=none):b∉ex:=λz=>by
 obtain⟨φ,e⟩:=t.ext b z
 rw[q]at e
 cases e
theorem Un.fly (F:vS fs ex h h') (t:YU ex h.objs.size H H') (th:∀b∈ex,∃o,h'.get? b=some o):Un fs [] H H' h h' where
 keep b o q n hf _:=F.keep b o hf (t.out0 n) q
 slot b o q n hf _:=F.slot b o hf (t.out0 n) q
 free b o q n _:=t.no b (Heap.lt_size q) n
 there b o q _:=by
   by_cases hb:b∈ex
   . exact th b hb
   . by_cases hf:b∈fs
     . obtain⟨sl,r⟩:=F.slot b o hf hb q
       exact⟨_,r⟩
     . exact⟨o,F.keep b o hf hb q⟩
 tups b xs q:=t.same b _ (t.out q (by intro φ z;cases z)) q
 frzs b o u q:=t.same b _ (t.out q (by intro φ z;cases z)) q
 tbls b ps q:=⟨#[],by simpa using t.same b _ (t.out q (by intro φ z;cases z)) q⟩
theorem Jk.fly (ok:Jk P w H h) (F:vS fs ex h h') (t:YU ex h.objs.size H H') (fr:∀b∈fs,H b=none) (new:∀b o,H' b=some o->(H b=none\/b∈ex)->qG P w H' h' b o):Jk P w H' h':=λb o q=>by
 by_cases hb:b∈ex
 . exact new b o q (.inr hb)
 cases e:H b with
 | none=>exact new b o q (.inl e)
 | some u=>
   have r:=t.same b u hb e
   rw[q]at r
   cases r
   refine(ok b o e).stay (λc v hc g=>F.keep c v ?_ ?_ g) (λc z=>t.same c _ (t.out z (by intro φ z;cases z)) z) λc xs z=>t.same c _ (t.out z (by intro φ z;cases z)) z
   . intro z
     have n:=fr c z
     rcases hc with rfl | hc
     . rw[e]at n;cases n
     . rw[hc]at n;cases n
   . rcases hc with rfl | hc
     . exact hb
     . exact t.out hc (by intro φ z;cases z)
end
end L2
namespace L2
open PySem PySem.Spec PyProof.Rows
def w6 (T:Addr) (fl:Value):HO:=.ext (Gy T fl)
theorem XM {P:Program} {w:World} {H:Hp} {h:Heap} {T:Addr} {fl:Value} (x:Gy T fl h):qG P w H h T (w6 T fl):=by
 obtain⟨ts,q,z⟩:=x
 exact⟨⟨ts,q,z⟩,⟨_,q⟩,λh1 h2 ⟨ts',q',z'⟩ k=>⟨ts',k _ q',z'⟩⟩
def XD (P:Program) (w:World):XB:=λouter H s E e s'=>∃a C dx T Hx H',e=.ref a/\s'.os=s.os/\AllBare s'.gens/\Un (zD outer) [] H H' s.heap s'.heap/\Jk P w H' s'.heap/\
 H' a=some (Q5 a C dx (.ref T))/\H' T=some (w6 T .none)/\Hx T=none/\Hx a=some (Ze a C dx)/\(∀b o,b≠a->Hx b=some o->H' b=some o)/\E (.ref C) (some dx) Hx
def wZ (X:Cx) (E:XK):Prop:=∀(pins:List (Addr×Obj)) (σ:St) (H:Hp) (s:Shared) (a C dx:Addr),qx X pins σ H s->H a=some (Ze a C dx)->E (.ref C) (some dx) H->X.xe (.ref a) s
section
variable {X:Cx} {pins:List (Addr×Obj)} {σ:St} {H H':Hp} {s:Shared} {h':Heap} {ex:List Addr}
theorem qx.flown (I:qx X pins σ H s) (F:vS (zD X.stack) ex s.heap h') (t:YU ex s.heap.objs.size H H') (th:∀b∈ex,∃o,h'.get? b=some o)
   (new:∀b o,H' b=some o->(H b=none\/b∈ex)->qG X.prog X.w H' h' b o):qx X pins σ H' {s with heap:=h'}:=
 I.call (g':=s.gens) (t':=s.toks) (d':=s.drawn) (ch:=[]) (Un.fly F t th) (Jk.fly I.hok F t I.stkFree new) I.bare λb z=>absurd z (by simp)
theorem vS.then {fs ex:List Addr} {h h1 h2:Heap} {T:Addr} (F:vS fs ex h h1) (G:vS fs [T] h1 h2) (hT:h.objs.size<=T):vS fs ex h h2 where
 keep b o n1 n2 q:=G.keep b o n1 (by simp;exact Nat.ne_of_lt (Nat.lt_of_lt_of_le (Heap.lt_size q) hT)) (F.keep b o n1 n2 q)
 slot b o n1 n2 q:=by
   obtain⟨sl,r⟩:=F.slot b o n1 n2 q
   obtain⟨sl',r'⟩:=G.slot b _ n1 (by simp;exact Nat.ne_of_lt (Nat.lt_of_lt_of_le (Heap.lt_size q) hT)) r
   exact⟨sl',r'⟩
end
section
variable {P:Program} {w:World} {K:PySem.W.Frag} {mg:Str->Option Value} {base:Heap} {N:List Str} {qual:Str} {scope:Scope} {f:Addr} {cd:Value} {A:Around} {outer:List Env} {s₀:Shared} {H₀:Hp} {E:XK}
theorem kz:wZ (Zp (XD P w) P w K mg base N qual scope f cd A outer s₀ H₀ E) E:=by
 intro pins σ H s a C dx I ha hE
 obtain⟨⟨fl,he,hz⟩,_,_⟩:=(show qG P w H s.heap a (Q5 a C dx .none) from I.hok a _ ha)
 have fr:=I.ok.frames
 have ff:=I.stack
 show wpAny _ _ (leaving _ _) _ _ s
 unfold leaving
 refine wpAny_bind (xN fr ff rfl he hz λh1 T hT F q1 q2=>?_)
 have lt:=(Array.getElem?_eq_some_iff.mp hz).1
 have g1:(fl.setIfInBounds 1 (Value.ref T))[1]?=some (.ref T):=by simp [lt]
 have nT:T≠a:=λz=>by
   obtain⟨ts,q,_⟩:=q2
   rw[z,q1]at q
   cases q
 refine Jt (fs:=zD (Zp (XD P w) P w K mg base N qual scope f cd A outer s₀ H₀ E).stack) q1 g1 q2 λh2 F2 st=>?_
 have anf:a∉zD (Zp (XD P w) P w K mg base N qual scope f cd A outer s₀ H₀ E).stack:=λz=>by
   have:=I.stkFree a z
   rw[ha]at this
   cases this
 have hTn:H T=none:=I.hok.fresh hT
 have q3:=F2.keep a _ anf (by simp [Ne.symm nT]) q1
 have I2:=I.flown (H':=upd (upd H a (Q5 a C dx (.ref T))) T (w6 T .none)) (vS.then F F2 hT) ⟨λb hb=>by cases List.mem_singleton.mp hb;exact⟨_,ha⟩,λb o hb q=>by
     rw[qh (qo q hTn),qh λz=>hb (by simp [z])];exact q,λb hb q=>by
     rw[qh (Nat.ne_of_lt (Nat.lt_of_lt_of_le hb hT)),qh λz=>by rw[z,ha]at q;cases q];exact q⟩ (λb hb=>by cases List.mem_singleton.mp hb;exact⟨_,q3⟩) λb o q hb=>by
   by_cases e1:b=T
   . subst e1
     rw[qd]at q
     cases q
     exact XM st
   . rw[qh e1]at q
     by_cases e2:b=a
     . subst e2
       rw[qd]at q
       cases q
       exact zZ ⟨_,q3,g1⟩
     . rw[qh e2]at q
       rcases hb with hb | hb
       . rw[q]at hb;cases hb
       . exact absurd (List.mem_singleton.mp hb) e2
 exact⟨a,C,dx,T,H,_,rfl,I2.os,I2.bare,I2.base,I2.hok,by rw[qh (Ne.symm nT),qd],qd ..,hTn,ha,λb o nb q=>by rw[qh (qo q hTn),qh nb];exact q,hE⟩
theorem Z2:Ql (XD P w) (Zp (XD P w) P w K mg base N qual scope f cd A outer s₀ H₀ E) E:=by
 intro pins σ H s e s' I0 hc
 obtain⟨a,C,dx,T,Hx,H1,rfl,os,bare,un,hok,ha,ht,hxT,hxa,hx,hE⟩:=hc
 have I:qx (Zp (XD P w) P w K mg base N qual scope f cd A outer s₀ H₀ E) pins σ H1 s':=I0.call' os un hok bare λb z=>absurd z (by simp)
 obtain⟨⟨fl,he,hz⟩,_,_⟩:=(show qG P w H1 s'.heap a (Q5 a C dx (.ref T)) from I.hok a _ ha)
 obtain⟨st0,_,_⟩:=(show qG P w H1 s'.heap T (w6 T .none) from I.hok T _ ht)
 have fr:=I.ok.frames
 have ff:=I.stack
 have nT0:T≠a:=λz=>by
   obtain⟨ts,q,_⟩:=st0
   rw[z,he]at q
   cases q
 show wpAny _ _ (leaving _ _) _ _ s'
 unfold leaving
 refine wpAny_bind (vn fr ff rfl he hz st0 nT0 λh1 T' hT F tT q1 q2=>?_)
 have lt:=(Array.getElem?_eq_some_iff.mp hz).1
 have g1:(fl.setIfInBounds 1 (Value.ref T'))[1]?=some (.ref T'):=by simp [lt]
 have nT:T'≠a:=λz=>by
   obtain⟨ts,q,_⟩:=q2
   rw[z,q1]at q
   cases q
 refine Jt (fs:=zD (Zp (XD P w) P w K mg base N qual scope f cd A outer s₀ H₀ E).stack) q1 g1 q2 λh2 F2 st=>?_
 have anf:∀b o,H1 b=some o->b∉zD (Zp (XD P w) P w K mg base N qual scope f cd A outer s₀ H₀ E).stack:=λb o q z=>by
   have:=I.stkFree b z
   rw[q]at this
   cases this
 have hTn:H1 T'=none:=I.hok.fresh hT
 have nTT:T'≠T:=(qo ht hTn).symm
 have q3:=F2.keep a _ (anf a _ ha) (by simp [Ne.symm nT]) q1
 obtain⟨oT,hoT⟩:=tT
 have q4:=F2.keep T _ (anf T _ ht) (by simp [Ne.symm nTT]) hoT
 have I2:=I.flown (H':=upd (upd (upd H1 a (Q5 a C dx (.ref T'))) T (.ext λh=>∃o,h.get? T=some o)) T' (w6 T' .none)) (vS.then F F2 hT) ⟨λb hb=>by
     simp only[List.mem_cons,List.not_mem_nil,or_false]at hb
     rcases hb with rfl | rfl
     . exact⟨_,ha⟩
     . exact⟨_,ht⟩,λb o hb q=>by
     simp only[List.mem_cons,List.not_mem_nil,or_false,not_or]at hb
     rw[qh (qo q hTn),qh hb.2,qh hb.1];exact q,λb hb q=>by
     rw[qh (Nat.ne_of_lt (Nat.lt_of_lt_of_le hb hT)),qh (λz=>by rw[z,ht]at q;cases q),qh (λz=>by rw[z,ha]at q;cases q)];exact q⟩ (λb hb=>by
     simp only[List.mem_cons,List.not_mem_nil,or_false]at hb
     rcases hb with rfl | rfl
     . exact⟨_,q3⟩
     . exact⟨_,q4⟩) λb o q hb=>by
   by_cases e1:b=T'
   . subst e1
     rw[qd]at q
     cases q
     exact XM st
   . rw[qh e1]at q
     by_cases e2:b=T
     . subst e2
       rw[qd]at q
       cases q
       exact⟨⟨_,q4⟩,⟨_,q4⟩,λh1 h2 ⟨u,z⟩ k=>⟨u,k u z⟩⟩
     . rw[qh e2]at q
       by_cases e3:b=a
       . subst e3
         rw[qd]at q
         cases q
         exact zZ ⟨_,q3,g1⟩
       . rw[qh e3]at q
         rcases hb with hb | hb
         . rw[q]at hb;cases hb
         . simp only[List.mem_cons,List.not_mem_nil,or_false]at hb
           exact(hb.elim e3 e2).elim
 refine⟨a,C,dx,T',Hx,_,rfl,I2.os,I2.bare,I2.base,I2.hok,by rw[qh (Ne.symm nT),qh (Ne.symm nT0),qd],qd ..,?_,hxa,λb o nb q=>?_,hE⟩
 . cases e:Hx T' with
   | none=>rfl
   | some o=>
     have:=hx T' o nT e
     rw[hTn]at this
     cases this
 . have n1:b≠T:=λz=>by rw[z,hxT]at q;cases q
   have q':=hx b o nb q
   rw[qh (qo q' hTn),qh n1,qh nb]
   exact q'
end
end L2
set_option Elab.async false
set_option linter.all false
set_option maxRecDepth 100000
set_option maxHeartbeats 4000000
namespace L2
open PySem PySem.Spec PyProof.Rows
section
variable {M:Model} {A:Around} {E:Value->Shared->Prop} {s:Shared} {env:Env} {C:Addr}
theorem kA {oC:Obj} {x:Sem Value} {Q:Flow->Shared->Prop} (hh:A.handled=none) (hcl:oC.cls=.type "type")
   (hs:∀(h:Heap) (g d t os) (Q:Bool->Shared->Prop),h.get? C=some oC->Q true ⟨h,g,d,t,os⟩->wpAny M A (isSubtype (.ref C) (.type "BaseException")) Q E ⟨h,g,d,t,os⟩)
   (h:wpAny M A x (λv s₁=>∃e dx fl,v=.ref e/\s₁.heap.get? C=some oC/\s₁.heap.get? e=some {cls:=.ref C,dict:=some dx,data:=.fields fl}/\fl[1]?=some Value.none/\E (.ref e) s₁) E s):
   wpAny M A (raiseStmt env (some x) none) Q E s:=by
 unfold raiseStmt
 refine wpAny_bind (q5 h λv s₁ h₁=>?_)
 obtain⟨e,dx,fl,rfl,hC,he,hz,hE⟩:=h₁
 obtain⟨hp,g,d,tk,os⟩:=s₁
 repeat (first | with_reducible refine wpAny_loadPart_at he ?_ | with_reducible refine wpAny_loadPart_at hC ?_ | with_reducible refine hs _ _ _ _ _ _ hC ?_ | wp_step)
 rw[hz]
 refine wpAny_pure ?_
 rw[if_neg (show ¬((Value.none != Value.none)=true) by decide)]
 exact wpAny_pure (wpAny_raiseNew_none hh hE)
end
def Nk (K:PySem.W.Frag) (C:Addr):Prop:=∃f bm,Mz K C f bm/\bm.contains (.type "BaseException")=true
def Rn (K:PySem.W.Frag) (E:XK) (te:TE):TS:=λD σ H=>te σ H λv H1=>∃a C dx,v=.ref a/\H1 a=some (Ze a C dx)/\Nk K C/\E (.ref C) (some dx) H1
section
variable {X:Cx} {E:XK} {e:Expr} {te:TE} {pos:Pos}
theorem x5 (hc:X.calm=true) (hx:wZ X E) (he:JE X e te):JS X (.Raise (some e) none pos) (Rn X.K E te):=.of (by
 have he:=he.to
 intro pins s σ H D I h
 have key:∀x:Sem Value,wpAny (model X.prog X.w) X.A x (λu s1=>∃v H1,qx X pins σ H1 s1/\qK v u/\∃a C dx,v=.ref a/\H1 a=some (Ze a C dx)/\Nk X.K C/\E (.ref C) (some dx) H1) X.xe s->
     wpAny (model X.prog X.w) X.A (raiseStmt X.env (some x) none) (SP X pins D) X.xe s:=λx hw=>by
   unfold raiseStmt
   refine wpAny_bind (q5 hw λu s1 ⟨v,H1,I1,rv,a,C,dx,ev,ha,⟨f,bm,em,hb⟩,hE⟩=>?_)
   subst ev
   obtain rfl:u=Value.ref a:=rv
   obtain⟨nm,q,N,bs,hdct,sn,sub,ab,col,dd,k0,k1,k2,k3,k5,hC⟩:=em.obj
   obtain⟨⟨fl,ho,hz⟩,_,_⟩:=(show qG X.prog X.w H1 s1.heap a (Q5 a C dx .none) from I1.hok a _ ha)
   have hC':=I1.kIn _ _ hC
   have r:=kA (M:=model X.prog X.w) (A:=X.A) (E:=X.xe) (s:=s1) (env:=X.env) (C:=C) (x:=pure (.ref a)) (Q:=SP X pins D) (I1.ok.hd hc) rfl (λh g d t os Q z k=>wpAny_isSubtype_exc z (by
     rw[show (Value.ref C::bm).contains (.type "BaseException")=true by rw[List.contains_cons,hb,Bool.or_true]];exact k)) (wpAny_pure ⟨a,dx,fl,rfl,hC',ho,hz,hx pins σ H1 s1 a C dx I1 ha hE⟩)
   exact r
 rw[arm_exec_Raise]
 exact wpAny_bind (wpAny_standAt (key _ (wpAny_bind (q5 (he pins s σ H _ I h) λu s1 q=>wpAny_bind (wpAny_standAt (wpAny_pure q)))))))
end
end L2
set_option Elab.async false
set_option linter.all false
set_option maxRecDepth 100000
set_option maxHeartbeats 4000000
namespace L2
open PySem PySem.Spec PyProof.Rows
section
variable {M:Model} {A:Around} {E:Value->Shared->Prop}
theorem yk {h:Heap} {g:Array GenState} {d:Drawn} {t:Nat} {os:OsState} {e C D:Addr} {oe oC:Obj} {ddc:Option Addr} {sld:Array (Option Value)} {cdd} {bC bD:List Value} {Q:Bool->Shared->Prop}
   (he:h.get? e=some oe) (hcls:oe.cls=.ref C) (hC:h.get? C=some oC) (hD:h.get? D=some ⟨.type "type",ddc,.cls cdd,sld⟩)
   (sC:∀(T:Value) (Q:Bool->Shared->Prop),Q (bC.contains T) ⟨h,g,d,t,os⟩->wpAny M A (isSubtype (.ref C) T) Q E ⟨h,g,d,t,os⟩)
   (sD:∀(T:Value) (Q:Bool->Shared->Prop),Q (bD.contains T) ⟨h,g,d,t,os⟩->wpAny M A (isSubtype (.ref D) T) Q E ⟨h,g,d,t,os⟩)
   (hB:bD.contains (.type "BaseException")=true)
   (hq:Q (bC.contains (.ref D)) ⟨h,g,d,t,os⟩):wpAny M A (excMatches (.ref e) (.ref D)) Q E ⟨h,g,d,t,os⟩:=by
 have f:=tc_notTuple
 unfold excMatches
 repeat (first | (with_reducible refine wpAny_loadPart_at he ?_;rw[hcls]) | with_reducible refine wpAny_loadPart_at hD ?_ | (with_reducible refine sC _ _ ?_) | (with_reducible refine sD _ _ ?_;rw[hB]) | wp_step)
 cases hb:bC.contains (.ref D)<;>(rw[hb]at hq;wp_walk;exact hq)
end
end L2
set_option Elab.async false
set_option linter.all false
set_option maxRecDepth 100000
set_option maxHeartbeats 4000000
namespace L2
open PySem PySem.Spec PyProof.Rows
def z6 (CX:XB) (X:Cx) (E:St->XK):Prop:=∀(pins:List (Addr×Obj)) (σ:St) (H:Hp) (s:Shared) (e:Value) (s':Shared),qx X pins σ H s->CX X.stack H s (E σ) e s'->X.xe e s'
section
variable {X:Cx} {CX:XB} {k:Nat} {f C:Addr} {fd:FuncData} {ps:List Str} {sp:Sp} {dvs:List V} {ds:List Value} {E:St->XK} {x m:Str} {p pos apos:Pos} {e o:Expr} {es:List Expr} {ta:TE} {t:TA}
theorem uX {pins:List (Addr×Obj)} {σ:St} {H:Hp} {s:Shared} {Q:VK} {us:List Value} {vs:List V} (F:qm X.prog X.w X.K X.mg X.base CX k f fd ps sp) (hr:qW k X.A) (hb:jx X.K fd ps ds) (hd:qD dvs ds) (hx:z6 CX X E)
   (I:qx X pins σ H s) (r:qD vs us) (h:sp (vs++dvs) H Q (E σ)):wpAny (model X.prog X.w) X.A (call (.ref f) us) (EP X pins σ Q) X.xe s:=by
 have rr:qD (vs++dvs) (us++ds):=r.append hd
 have ll:(us++ds).length=ps.length:=rr.length.symm.trans (F.len _ _ _ _ h)
 have run:=F.run X.A X.stack s H ⟨us,[]⟩ (us++ds) (vs++dvs) Q (E σ) hr I.env0 (hb s us I.kIn ll) rr h
 refine wpAny_call (codeAny_mono run λz s' q=>?_)
 match z,q with
 | .error y,q=>exact hx pins σ H s y s' I q
 | .ok (.ret u),q=>exact I.after q
end
end L2
set_option Elab.async false
set_option linter.all false
set_option maxRecDepth 100000
set_option maxHeartbeats 4000000
namespace L2
open PySem PySem.Spec PyProof.Rows
section
variable {X:Cx}
def qab (K:PySem.W.Frag) (k:Bool):R2:=λx y H Q=>∃d,DV K H x d/\DV K H y d/\PySem.SeqAt.shaped d=true/\Q (.bl k) H
theorem Uh {d:PyData} (h:PySem.SeqAt.shaped d=true):PyData.eqv d d=true:=PySem.SeqAt.eqv_refl d (PySem.SeqAt.canLay_of_shaped h)
theorem xr (hu:X.A.units+64 < cLine):J0 X (compareOp .Eq) (qab X.K true):=by
 intro pins s σ H x y v u Q I rx ry h
 obtain⟨d,h1,h2,hs,q⟩:=h
 obtain⟨as,ra⟩:=h1.reads I rx
 obtain⟨bs,rb⟩:=h2.reads I ry
 refine eq_dataH ra rb hs hs hu ?_
 rw[Uh hs]
 exact⟨.bl true,H,I,rfl,q⟩
def MC (i j:Int):Prop:=0 < j/\j.natAbs < 2^200
theorem xq:J0 X (binaryOp .FloorDiv) (rI MC λi j=>.int (i / j)):=Rw λi j _ _ _ _ _ hc q=>by
 have h1:(0:Int) < j:=hc.1
 have h3:j.natAbs.log2 < 200:=(Nat.log2_lt (by omega)).mpr hc.2
 exact floordiv_int (by omega) (by rw[Int.fdiv_eq_ediv_of_nonneg i (by omega)];exact q) (.inl (PyProof.noPylong_of_log2 (Nat.lt_trans h3 (by decide))))
theorem kR:Mw X "int.bit_length" (λx xs H Q=>∃i,x=.int i/\xs=[]/\Q (.int (Builtin.Int.intBits i)) H):=by
 intro pins s σ H x xs v us Q I rx rv h
 obtain⟨i,rfl,rfl,q⟩:=h
 obtain⟨t,rfl⟩:=rx
 cases rv
 exact call_int_bit_length ⟨.int _,H,I.tok _,⟨_,rfl⟩,q⟩
end
section
variable {X:Cx} {tg:Expr}
end
section
variable {X:Cx} {st:Stmt} {rest:List Stmt} {t u:TS}
end
end L2
set_option Elab.async false
set_option linter.all false
set_option maxRecDepth 100000
set_option maxHeartbeats 4000000
namespace PySem
section
variable {prog:Program} {w:World} {A:Around} {E:Value->Shared->Prop} {s:Shared}
def Yu (x n c:Int):Obj:={cls:=.type "range_iterator",data:=.fields #[rawInt x,rawInt n,rawInt c]}
theorem vb (n:Nat):Builtin.Range.rangeSize 0 n 1=n:=by
 unfold Builtin.Range.rangeSize
 rw[if_pos (by decide)]
 split<;>omega
theorem YR {r:Addr} {a b c:Int} {t u v:Tok} {Q:Value->Shared->Prop} (hr:IsRange s.heap r a b c t u v)
   (hs:(Builtin.Range.rangeFitsLong a&&Builtin.Range.rangeFitsLong b&&Builtin.Range.rangeFitsLong c&&Builtin.Range.rangeFitsLong (-c)&&Builtin.Range.rangeFitsLong (a - c)&&Builtin.Range.rangeFitsLong (Builtin.Range.rangeSize a b c))=true)
   (h:Q (.ref s.heap.objs.size) {s with heap:=s.heap.push (Yu (a+(Builtin.Range.rangeSize a b c - 1)*c) (Builtin.Range.rangeSize a b c) (-c))}):wpAny (model prog w) A (call (.builtin "range.__reversed__") [.ref r]) Q E s:=by
 have ty:s.TypeIs (.ref r) "range":=⟨_,hr,rfl⟩
 refine wpAny_call_entry F.slot_range_reversed ty F.entry_range_reversed ?_ (F.args_range_reversed_1 _)
 unfold Builtin.«range.__reversed__»
 refine wpAny_bind (wpAny_of_eq (a:=Value.ref r) rfl ?_)
 refine wpAny_bind ?_
 unfold Builtin.Range.rangeFields
 refine wpAny_bind (wpAny_field hr rfl (x:=.int a t) rfl ?_)
 refine wpAny_bind (m:=asInt? (.int a t)) (wpAny_pure ?_)
 refine wpAny_bind (wpAny_field hr rfl (x:=.int b u) rfl ?_)
 refine wpAny_bind (m:=asInt? (.int b u)) (wpAny_pure ?_)
 refine wpAny_bind (wpAny_field hr rfl (x:=.int c v) rfl ?_)
 refine wpAny_bind (m:=asInt? (.int c v)) (wpAny_pure ?_)
 refine wpAny_pure ?_
 dsimp only
 rw[hs]
 simp only[Bool.not_true,Bool.false_eq_true,if_false,if_true]
 first
 | refine wpAny_bind (wpAny_newObj_type (wpAny_pure ⟨_,rfl,h⟩))
 | refine wpAny_bind (wpAny_pure (wpAny_bind (wpAny_newObj_type (wpAny_pure ⟨_,rfl,h⟩))))
theorem Zg {r:Addr} {n:Nat} {t u v:Tok} {Q:Value->Shared->Prop} (hr:IsRange s.heap r 0 n 1 t u v) (hn:n < 1048576)
   (h:Q (.ref s.heap.objs.size) {s with heap:=s.heap.push (Yu ((n:Int) - 1) n (-1))}):wpAny (model prog w) A (call (.builtin "range.__reversed__") [.ref r]) Q E s:=by
 have f:∀x:Int,-2000000<=x->x<=2000000->Builtin.Range.rangeFitsLong x=true:=λx p q=>by
   unfold Builtin.Range.rangeFitsLong
   simp
   omega
 have e:=vb n
 have hs:(Builtin.Range.rangeFitsLong 0&&Builtin.Range.rangeFitsLong (n:Int)&&Builtin.Range.rangeFitsLong 1&&Builtin.Range.rangeFitsLong (-1)&&Builtin.Range.rangeFitsLong (0 - 1)&&Builtin.Range.rangeFitsLong (Builtin.Range.rangeSize 0 n 1))=true:=by
   rw[e,f 0 (by omega) (by omega),f n (by omega) (by omega),f 1 (by omega) (by omega),f (-1) (by omega) (by omega),f (0 - 1) (by omega) (by omega)]
   rfl
 refine YR hr hs ?_
 have e2:(0:Int)+(Builtin.Range.rangeSize 0 n 1 - 1)*1=(n:Int) - 1:=by rw[e];omega
 rw[e2,e]
 exact h
end
end PySem
namespace PySem
section
variable {prog:Program} {w:World} {A:Around} {E:Value->Shared->Prop} {s:Shared}
theorem Zq {r:Addr} {n:Nat} {t u v:Tok} {Q₁:Value->Shared->Prop} (hr:IsRange s.heap r 0 n 1 t u v) (hn:n < 1048576)
   (h:Q₁ (.ref s.heap.objs.size) {s with heap:=s.heap.push (Yu ((n:Int) - 1) n (-1))}):
   codeAny (model prog w) A (.call (.builtin "reversed.__new__") ⟨[.type "reversed",.ref r],[]⟩) (wants Q₁ E) s:=by
 have ty:s.TypeIs (.ref r) "range":=⟨_,hr,rfl⟩
 have nn:¬((Value.builtin "range.__reversed__"==Value.none)=true):=Bool.false_ne_true
 refine codeAny_of_tree (show wpAny _ A.in1 (checkBuiltinCall "reversed.__new__" ⟨[.type "reversed",.ref r],[]⟩ >>= λ_=>again (.builtin "reversed.__new__" ⟨[.type "reversed",.ref r],[]⟩)) _ _ s from
   wpAny_bind (wpAny_of_eq (F.newCall_reversed_1 (.ref r)) (wpAny_pure ⟨plainId_quiet F.plain_reversed_new _,codeAny_builtin F.entry_reversed_new ?_⟩)))
 rw[Around.under_plainId F.plain_reversed_new _];unfold Builtin.«reversed.__new__»
 refine wpAny_bind (wpAny_of_eq (newClass_reversed (.ref r)) ?_);dsimp only
 refine wpAny_bind (wpAny_of_eq (a:=()) (by kernel_rfl) (wpAny_bind (wpAny_of_eq (a:=()) (by kernel_rfl) ?_)));try dsimp only
 refine wpAny_bind (wpAny_specialOf ty F.slot_range_reversed.lookup ?_);dsimp only
 refine wpAny_bind (wpAny_of_eq (F.slot_range_reversed.bind _) ?_);dsimp only
 rw[if_neg nn]
 refine wpAny_bind (wpAny_rule (wpAny_bind (m:=runValue (.call (.builtin "range.__reversed__") ⟨[.ref r],[]⟩)) (show wpAny _ _ (call (.builtin "range.__reversed__") [.ref r]) _ _ _ from Zg hr hn ?_)))
 first | exact wpAny_pure h | exact wpAny_bind (wpAny_pure (wpAny_pure h))
theorem zA:isSubtype (.type "range_iterator") (.type "reversed")=pure false:=by rw[isSubtype_type];kernel_rfl
theorem Zf {r:Addr} {n:Nat} {t u v:Tok} {Q:Value->Shared->Prop} (hr:IsRange s.heap r 0 n 1 t u v) (hn:n < 1048576)
   (h:Q (.ref s.heap.objs.size) {s with heap:=s.heap.push (Yu ((n:Int) - 1) n (-1))}):wpAny (model prog w) A (call (.type "reversed") [.ref r]) Q E s:=by
 refine callType_other (U:="range_iterator") (Q₁:=λobj s₁=>obj=.ref s.heap.objs.size/\s₁={s with heap:=s.heap.push (Yu ((n:Int) - 1) n (-1))}) (by decide+kernel) F.create_reversed ⟨_,_,F.mro_reversed⟩ F.made_reversed zA (F.typeCall_reversed_1 _) (Zq hr hn ⟨rfl,rfl⟩) ?_
 rintro obj s₁ ⟨rfl,rfl⟩
 exact⟨⟨_,Heap.get?_push_size _ rfl,rfl⟩,h⟩
theorem WD {I:Addr} {x left c:Int} {Q:Value->Shared->Prop} (hit:IsRangeIter s.heap I x left c) (h:Q (.int left s.toks) {s with toks:=s.toks+1}):
   wpAny (model prog w) A (call (.builtin "range_iterator.__length_hint__") [.ref I]) Q E s:=by
 have hT:s.TypeIs (.ref I) "range_iterator":=⟨_,hit,rfl⟩
 refine wpAny_call_entry F.slot_range_iterator_length_hint hT F.entry_range_iterator_length_hint ?_ (F.args_range_iterator_length_hint_1 _)
 unfold Builtin.«range_iterator.__length_hint__»
 refine wpAny_bind (wpAny_of_eq (a:=Value.ref I) rfl ?_)
 refine wpAny_bind (wpAny_field hit rfl (x:=rawInt left) rfl ?_)
 show wpAny _ _ (do ret (<-mkInt left)) _ _ _
 exact wpAny_ret_mkInt h
structure Us (P:Program) (w:World) (T:String) (I:Addr) (fp:List Addr) (n:Nat) (V:Nat->Value->Prop) (St:Nat->Heap->Prop):Prop where
 ty:∀z:Shared,St 0 z.heap->z.TypeIs (.ref I) T
 nl:(Value.type T==Value.type "list")=false
 nt:(Value.type T==Value.type "tuple")=false
 walk:∀B:Around,B.handled=none->Walks P w B I fp [I] n V St
 hint:∀(B:Around) (F:Value->Shared->Prop) (z:Shared) (R:Bool->Shared->Prop),St 0 z.heap->(∀k,R false {z with toks:=k})->wpAny (model P w) B (Builtin.List.listLengthHint (.ref I)) R F z
theorem Us.list {P:Program} {T:String} {I:Addr} {fp:List Addr} {n:Nat} {V:Nat->Value->Prop} {St:Nat->Heap->Prop} (J:Us P w T I fp n V St) {B:Around} {F':Value->Shared->Prop} {z:Shared} {R:Value->Shared->Prop}
   (hB:B.handled=none) (st:St 0 z.heap) (mem:I∈fp) (old:∀b∈fp,b < z.heap.objs.size) (hn:n<=1048576)
   (k:∀g tk xs c,(∀b o,b≠I->z.heap.get? b=some o->g.get? b=some o)->g.get? z.heap.objs.size=some (⟨.type "list",none,.seq xs c,#[]⟩:Obj)->ItemsOf V xs n->R (.ref z.heap.objs.size) {z with heap:=g,toks:=tk}):
   wpAny (model P w) B (call (.type "list") [.ref I]) R F' z:=by
 have nI:∀b∈fp,z.heap.objs.size≠b:=λb hb=>Nat.ne_of_gt (old b hb)
 have sI:Builtin.List.listSameRef (.ref z.heap.objs.size) (.ref I)=false:=by unfold Builtin.List.listSameRef;simp [nI I mem]
 refine callType_codes (Q₁:=λob z1=>z1={z with heap:=z.heap.push {cls:=.type "list",data:=.seq #[]}}/\ob=.ref z.heap.objs.size) F.called_list (F.typeCall_list_1 _) F.entry_list_init (code_list_new _ ⟨rfl,rfl⟩) ?_
 rintro ob z1 ⟨rfl,rfl⟩
 have a0:=Heap.get?_push_size z.heap (o:=({cls:=.type "list",data:=.seq #[]}:Obj)) rfl
 refine⟨⟨_,a0,rfl⟩,F.args_list_init_2 _ _,?_⟩
 show wpAny _ _ (Builtin.List.listItems (.ref _) >>= λys=>Builtin.List.listUpdate (.ref _) (λ_=>#[]) >>= λ_=>letGo ys.toList.reverse >>= λ_=>Builtin.List.listExtendWith (.ref _) (.ref I) .none) _ _ _
 refine wpAny_bind (show wpAny _ _ (Builtin.List.listItems (.ref _)) _ _ _ from ?_)
 unfold Builtin.List.listItems
 refine wpAny_bind (wpAny_seqItems a0 rfl (wpAny_pure (wpAny_bind ?_)))
 refine wpAny_updateSeq a0 rfl (wpAny_bind (wpAny_letGo ?_))
 have a1:=Heap.get?_update_self (Obj.mapSeq (λ_=>(#[]:Array Value))) a0 rfl
 have keep1:∀b o,z.heap.get? b=some o->((z.heap.push {cls:=.type "list",data:=.seq #[]}).update z.heap.objs.size (Obj.mapSeq (λ_=>(#[]:Array Value)))).get? b=some o:=λb o e=>
   (Heap.get?_update_other _ _ (Nat.ne_of_gt (Heap.lt_size e))).trans (Heap.get?_push_of_some _ e)
 generalize hg1:(z.heap.push {cls:=.type "list",data:=.seq #[]}).update z.heap.objs.size (Obj.mapSeq (λ_=>(#[]:Array Value)))=g1 at a1 keep1
 have st1:St 0 g1:=(J.walk B hB).frame 0 _ _ st λb _ o e=>keep1 b o e
 unfold Builtin.List.listExtendWith
 refine wpAny_bind (wpAny_typeOf (J.ty {z with heap:=g1} st1) ?_)
 simp only[sI,J.nl,J.nt,Bool.or_false,Bool.false_eq_true,if_false]
 refine wpAny_bind ((J.walk B.in1.in1 hB).self 0 {z with heap:=g1} _ _ st1 ?_)
 refine wpAny_bind (wpAny_holding (J.hint B.in1.in1 _ {z with heap:=g1} _ st1 λtk=>?_))
 have run:∀(g:Heap) (c tk:Nat),St 0 g->(∀b o,z.heap.get? b=some o->g.get? b=some o)->g.get? z.heap.objs.size=some {cls:=.type "list",data:=.seq #[] c}->
     codeAny (model P w) B.in1 (.builtin "list.extend.loop" ⟨[.ref z.heap.objs.size,.ref I,.none],[]⟩) (wants (λr z2=>r=.none/\R (.ref z.heap.objs.size) z2) F') {z with heap:=g,toks:=tk}:=λg c tk sg kg ag=>
   codeAny_extend_loopS (J.walk B.in1.in1 hB).toS (by rw[sizeLine_eq];omega) _ (λq=>nI _ q rfl) .none n 0 _ #[] c rfl (Nat.zero_le _) sg ag (ItemsOf.nil _) λz3 xs c3 mv a3 it=>by
     rw[Moved.eq_with mv]
     refine⟨rfl,k z3.heap z3.toks xs c3 (λb o hb e=>mv.heap b o (λq=>?_) (kg b o e)) a3 it⟩
     rcases List.mem_cons.mp q with q | q
     . exact absurd q (Nat.ne_of_lt (Heap.lt_size e))
     . exact hb (List.mem_singleton.mp q)
 refine wpAny_ite_split (λ_=>?_) (λ_=>wpAny_pure ⟨plainId_quiet F.plain_extend_loop _,run g1 _ tk st1 keep1 a1⟩)
 refine wpAny_bind (wpAny_rule (wpAny_bind (show wpAny _ _ (updateSeq z.heap.objs.size (·.push .none) >>= λ_=>updateSeq z.heap.objs.size (·.pop)) _ _ _ from wpAny_bind (wpAny_updateSeq a1 rfl ?_))))
 have a2:=Heap.get?_update_self (Obj.mapSeq (·.push Value.none)) a1 rfl
 refine wpAny_updateSeq (hz:=by seq_fits) a2 rfl ?_
 have keep3:∀b o,b≠z.heap.objs.size->g1.get? b=some o->((g1.update z.heap.objs.size (Obj.mapSeq (·.push Value.none))).update z.heap.objs.size (Obj.mapSeq (·.pop))).get? b=some o:=λb o hb e=>
   (Heap.get?_update_other _ _ (Ne.symm hb)).trans ((Heap.get?_update_other _ _ (Ne.symm hb)).trans e)
 exact wpAny_pure ⟨plainId_quiet F.plain_extend_loop _,run _ _ tk ((J.walk B hB).frame 0 _ _ st1 λb hb o e=>keep3 b o (λq=>nI b hb q.symm) e) (λb o e=>keep3 b o (Nat.ne_of_lt (Heap.lt_size e)) (keep1 b o e)) (Heap.get?_update_self (Obj.mapSeq (·.pop)) a2 rfl)⟩
theorem km {P:Program} {I:Addr} {x c:Int} {n:Nat} (hn:n<=1048576):Us P w "range_iterator" I [I] n (λi v=>∃t,v=.int (x+i*c) t) (λi h=>IsRangeIter h I (x+(i:Nat)*c) ((n:Int) - (i:Nat)) c) where
 ty:=λ_ st=>⟨_,st,rfl⟩
 nl:=by decide
 nt:=by decide
 walk:=λ_ hB=>Walks.range hB I x c n
 hint:=λB G z R st k=>by
   have st':IsRangeIter z.heap I x n c:=by
     have e1:x+((0:Nat):Int)*c=x:=by simp
     have e2:(n:Int) - ((0:Nat):Int)=n:=by simp
     rw[<-e1,<-e2]
     exact st
   have ty:z.TypeIs (.ref I) "range_iterator":=⟨_,st',rfl⟩
   have few:Builtin.List.listTooLong ((n:Int).toNat)=false:=by unfold Builtin.List.listTooLong;rw[Int.toNat_natCast];exact decide_eq_false (by rw[sizeLine_eq];omega)
   unfold Builtin.List.listLengthHint
   refine wpAny_bind (wpAny_specialOf ty F.nolen_ra ?_)
   refine(show wpAny _ B (specialOf (.ref I) (Str.ofString "__length_hint__") >>= _) _ _ _ from wpAny_bind (wpAny_specialOf ty F.hint_ra ?_))
   (generalize hq:("range_iterator.__length_hint__":String)=q0;(fail_if_success (clear hq q0));wp_delta;rw[show splitId q0=some ("range_iterator","__length_hint__") from by subst hq;decide+kernel];subst hq)
   refine wpAny_bind (wpAny_isInstance (b:=true) ty (by rw[isSubtype_type];kernel_rfl) ?_)
   refine(show wpAny _ B (call (.builtin "range_iterator.__length_hint__") [.ref I] >>= _) _ _ _ from wpAny_bind (WD st' (wpAny_bind (m:=asInt? (.int (n:Int) _)) (wpAny_pure ?_))))
   dsimp only
   rw[if_neg (by rw[few];decide)]
   exact wpAny_pure (k _)
end
end PySem
namespace L2
open PySem PySem.Spec PyProof.Rows
def ZQ (n:Nat):List Nat:=(List.range n).reverse
theorem vW {n:Nat} {acc:Array Value} (h:ItemsOf (λi v=>∃t,v=.int ((n:Int) - 1+i*(-1)) t) acc n):qD ((ZQ n).map λi=>V.int (i:Nat)) acc.toList:=by
 obtain⟨hz,hv⟩:=h
 have key:∀(xs:List V) (us:List Value),xs.length=us.length->(∀(i:Nat) (x:V) (u:Value),xs[i]?=some x->us[i]?=some u->qK x u)->qD xs us:=by
   intro xs
   induction xs with
   | nil=>intro us hl _;cases us with | nil=>exact .nil | cons _ _=>cases hl
   | cons x xs ih=>
     intro us hl hp
     cases us with
     | nil=>cases hl
     | cons u us=>exact .cons (hp 0 x u rfl rfl) (ih us (by simpa using hl) λi y w h1 h2=>hp (i+1) y w (by simpa using h1) (by simpa using h2))
 refine key _ _ (by simp [ZQ,hz]) λi x u h1 h2=>?_
 have h2':acc[i]?=some u:=by simpa using h2
 obtain⟨t,rfl⟩:=hv i u h2'
 have hi:i < n:=by
   have:=(Array.getElem?_eq_some_iff.mp h2').1
   omega
 rw[List.getElem?_map,ZQ,List.getElem?_reverse (by simpa using hi),List.length_range,List.getElem?_range (by omega)]at h1
 simp at h1
 subst h1
 refine⟨t,?_⟩
 congr 1
 omega
section
variable {X:Cx} {e:Expr} {te:TE} {p1 p2 p3 pos1 pos2 pos3:Pos}
theorem yI {M:Model} {A:Around} {E:Value->Shared->Prop} {s:Shared} {env:Env} {e:Expr} {pos:Pos} {R:List Value->Shared->Prop} (hs:starEach [e] env=[(false,eval e env)]) (h:wpAny M A (eval e env) (λv s1=>R [v] s1) E s):
   wpAny M A (spliced (backTo pos (starEach [e] env))) R E s:=by
 rw[hs]
 show wpAny _ _ (spliced ((false,eval e env)::backTo pos [])) _ _ s
 exact Calls.spliced_cons (q5 h λu s1 h1=>Calls.spliced_nil h1)
def MP (te:TE):TE:=λσ H Q=>te σ H λx H1=>∃n:Nat,x=.int n/\n<=1000/\∀l,H1 l=none->Q (.ref l) (upd H1 l (.lst ((ZQ n).map λi=>V.int (i:Nat))))
theorem RW (hc:X.calm=true) (g1:Gl X "list") (m1:X.mg "list"=none) (g2:Gl X "reversed") (m2:X.mg "reversed"=none) (g3:Gl X "range") (m3:X.mg "range"=none) (ha:JE X e te) (hs:starEach [e] X.env=[(false,eval e X.env)]:=by rfl) (hs2:starEach [.Call (.Name "range" p3) [e] [] pos3] X.env=[(false,eval (.Call (.Name "range" p3) [e] [] pos3) X.env)]:=by rfl) (hs3:starEach [.Call (.Name "reversed" p2) [.Call (.Name "range" p3) [e] [] pos3] [] pos2] X.env=[(false,eval (.Call (.Name "reversed" p2) [.Call (.Name "range" p3) [e] [] pos3] [] pos2) X.env)]:=by rfl):JE X (.Call (.Name "list" p1) [.Call (.Name "reversed" p2) [.Call (.Name "range" p3) [e] [] pos3] [] pos2] [] pos1) (MP te):=.of (by
 have ha:=ha.to
 intro pins s σ H Q I h
 refine Call_ (Q4 I g1 m1 boot_list (PyProof.Rows.callWith_type1 (yI hs3 ?_) (by rw[hs3];rfl) rfl))
 refine Call_ (Q4 I g2 m2 boot_reversed (PyProof.Rows.callWith_type1 (yI hs2 ?_) (by rw[hs2];rfl) rfl))
 refine Call_ (Q4 I g3 m3 boot_range (PyProof.Rows.callWith_type1 (yI hs (q5 (ha pins s σ H _ I h) λu s1 ⟨x,H1,I1,r1,q1⟩=>?_)) (by rw[hs];rfl) rfl))
 obtain⟨n,rfl,hn,q⟩:=q1
 obtain⟨t,rfl⟩:=r1
 refine call_range_1 ?_
 refine Zf (IsRange.new ..) (by omega) ?_
 refine(km (x:=(n:Int) - 1) (c:=-1) (n:=n) (by omega)).list (I1.ok.hd hc) (by
   have e1:(n:Int) - 1+((0:Nat):Int)*(-1)=(n:Int) - 1:=by simp
   have e2:(n:Int) - ((0:Nat):Int)=n:=by simp
   rw[e1,e2]
   exact Heap.get?_push_size _ rfl) (by simp) (λb hb=>by rw[List.mem_singleton.mp hb,Heap.size_push (_:Heap) (Yu _ _ _)];exact Nat.lt_succ_self _) (by omega) λh' tk acc' c' kp e hi=>?_
 have kk:∀b o,s1.heap.get? b=some o->h'.get? b=some o:=λb o eb=>by
   refine kp b o (Nat.ne_of_lt ?_) (Heap.get?_push_of_some _ (Heap.get?_push_of_some _ eb))
   rw[Heap.size_push]
   exact Nat.lt_succ_of_lt (Heap.lt_size eb)
 have s1z:s1.heap.objs.size<=((s1.heap.push ({cls:=.type "range",data:=.fields #[.int 0 s1.toks,.int n t,.int 1 (s1.toks+1)]}:Obj)).push (Yu ((n:Int) - 1) n (-1))).objs.size:=by
   rw[Heap.size_push,Heap.size_push]
   omega
 exact⟨.ref _,_,I1.laid (t':=tk) (o:=.lst ((ZQ n).map λi=>V.int (i:Nat))) kk s1z ⟨by simp only[List.length_map,ZQ,List.length_reverse,List.length_range];exact Nat.le_of_lt (qp hn),acc'.toList,c',vW hi,by simpa using e⟩,rfl,q _ (I1.hok.fresh s1z)⟩)
end
end L2
set_option Elab.async false
set_option linter.all false
set_option maxRecDepth 100000
set_option maxHeartbeats 4000000
namespace PySem
namespace F
end F
end PySem
namespace L2
open PySem PySem.Spec PyProof.Rows
theorem kE:∀(xs:List V) (us:List Value),xs.length=us.length->(∀(i:Nat) (x:V) (u:Value),xs[i]?=some x->us[i]?=some u->qK x u)->qD xs us:=by
 intro xs
 induction xs with
 | nil=>intro us hl _;cases us with | nil=>exact .nil | cons _ _=>cases hl
 | cons x xs ih=>
   intro us hl hp
   cases us with
   | nil=>cases hl
   | cons u us=>exact .cons (hp 0 x u rfl rfl) (ih us (by simpa using hl) λi y w h1 h2=>hp (i+1) y w (by simpa using h1) (by simpa using h2))
section
variable {X:Cx} {e:Expr} {te:TE} {p1 p2 pos1 pos2:Pos}
end
end L2
set_option Elab.async false
set_option linter.all false
set_option maxRecDepth 100000
set_option maxHeartbeats 4000000
namespace L2
open PySem PySem.Spec PyProof.Rows
section
variable {X:Cx} {pins:List (Addr×Obj)} {σ:St} {H:Hp} {s:Shared} {h':Heap}
theorem qx.turnLaid {L:List Addr} {T:Addr} {o:HO} {t':Nat} (I:qx X pins σ H s) (k:∀b u,b∉L->s.heap.get? b=some u->h'.get? b=some u) (hf:∀b∈L,Zt X pins H b) (hp:s.heap.objs.size<=T)
   (new:qG X.prog X.w (upd H T o) h' T o):qx X pins σ (upd H T o) {s with heap:=h',toks:=t'}:=by
 have hn:H T=none:=I.hok.fresh hp
 have up:∀b u,H b=some u->upd H T o b=some u:=λb u e=>by rw[qh (qo e hn)];exact e
 have nL:∀b u,H b=some u->b∉L:=λb u e z=>by rw[(hf b z).1]at e;cases e
 refine I.step (g':=s.gens) (d':=s.drawn) (ch:=L) (λb hb=>?_) (λb o _ _ hc e _=>k b o hc e) (λb o _ _ hc e _=>⟨o.slots,k b o hc e⟩) (λb ob hc e n=>?_)
   (λb o hc e=>⟨o,k b o hc e⟩) (λb xs e=>up b _ e) (λb o u e=>up b _ e) (λb ps e=>⟨#[],by rw[up b _ e];simp⟩) (λm hm=>?_) (λb u e=>?_) I.bare
 . obtain⟨f0,f1,f2,f3,f4,f5⟩:=hf b hb
   exact⟨f3,f1,f4,f5⟩
 . have:b≠T:=Nat.ne_of_lt (Nat.lt_of_lt_of_le (Heap.lt_size e) hp)
   rw[qh this]
   exact n
 . obtain⟨o,es,ep,ho,r⟩:=hm
   exact⟨o,es,ep,k _ o (λz=>(hf _ z).2.1 rfl) ho,r⟩
 . by_cases hb:b=T
   . subst hb
     rw[qd]at e
     cases e
     exact new
   . rw[qh hb]at e
     refine(I.hok b u e).stay (λc v hc q=>k c v ?_ q) (λc q=>up c _ q) λc xs q=>up c _ q
     rcases hc with z | z
     . rw[z];exact nL b u e
     . exact nL c _ z
theorem qx.turnedL {L:List Addr} {t':Nat} (I:qx X pins σ H s) (k:∀b u,b∉L->s.heap.get? b=some u->h'.get? b=some u) (hf:∀b∈L,Zt X pins H b):qx X pins σ H {s with heap:=h',toks:=t'}:=by
 have nL:∀b u,H b=some u->b∉L:=λb u e z=>by rw[(hf b z).1]at e;cases e
 refine I.step (g':=s.gens) (d':=s.drawn) (ch:=L) (λb hb=>?_) (λb o _ _ hc e _=>k b o hc e) (λb o _ _ hc e _=>⟨o.slots,k b o hc e⟩) (λ_ _ _ _ n=>n)
   (λb o hc e=>⟨o,k b o hc e⟩) (λ_ _ e=>e) (λ_ _ _ e=>e) (λb ps e=>⟨#[],by rw[e];simp⟩) (λm hm=>?_) (λb u e=>?_) I.bare
 . obtain⟨f0,f1,f2,f3,f4,f5⟩:=hf b hb
   exact⟨f3,f1,f4,f5⟩
 . obtain⟨o,es,ep,ho,r⟩:=hm
   exact⟨o,es,ep,k _ o (λz=>(hf _ z).2.1 rfl) ho,r⟩
 . refine(I.hok b u e).stay (λc v hc q=>k c v ?_ q) (λ_ q=>q) λ_ _ q=>q
   rcases hc with z | z
   . rw[z];exact nL b u e
   . exact nL c _ z
end
section
variable {X:Cx} {elts:List Expr} {x1:Nat} {tpos:Pos}
end
end L2
set_option Elab.async false
set_option linter.all false
set_option maxRecDepth 100000
set_option maxHeartbeats 4000000
namespace L2
open PySem PySem.Spec PyProof.Rows
section
variable {X:Cx}
theorem Y4:∀{cs:List Addr} {us:List Value},qD (cs.map V.ref) us->us=cs.map Value.ref
 | [],_,.nil=>rfl
 | c::cs,u::us,.cons r t=>by
   obtain rfl:u=Value.ref c:=r
   rw[List.map_cons,Y4 t]
def qaa (K:PySem.W.Frag):R2:=λx y H Q=>∃d d',DV K H x d/\DV K H y d'/\PySem.SeqAt.shaped d=true/\PySem.SeqAt.shaped d'=true/\Q (.bl (PyData.eqv d d')) H
theorem V2 (hu:X.A.units+64 < cLine):J0 X (compareOp .Eq) (qaa X.K):=by
 intro pins s σ H x y v u Q I rx ry h
 obtain⟨d,d',h1,h2,hs,hs',q⟩:=h
 obtain⟨as,ra⟩:=h1.reads I rx
 obtain⟨bs,rb⟩:=h2.reads I ry
 exact eq_dataH ra rb hs hs' hu ⟨.bl _,H,I,rfl,q⟩
end
section
variable {X:Cx} {o e:Expr} {es:List Expr} {ta:TE} {t:TA} {m:Str} {C C' f f':Addr} {fd fd':FuncData} {ps ps':List Str} {k k':Nat} {sp sp':Sp} {apos pos:Pos}
def yC (C C':Addr) (m:Str) (sp sp':Sp) (ta:TE) (t:TA):TE:=λσ H Q=>ta σ H λx H1=>∃a dx fs,x=.ref a/\fs.lookup m=none/\
 ((H1 a=some (.ins C dx fs)/\t σ H1 λvs H2=>sp (x::vs) H2 Q E0)\/(H1 a=some (.ins C' dx fs)/\t σ H1 λvs H2=>sp' (x::vs) H2 Q E0))
theorem wb {pl:Sem Bool} (he:JE X o ta) (c:z7 X.K C) (hm:Y3 X.K C m f) (F:qm X.prog X.w X.K X.mg X.base qO k f fd ps sp) (hr:qW k X.A) (hb:jx X.K fd ps []) (c':z7 X.K C') (hm':Y3 X.K C' m f') (F':qm X.prog X.w X.K X.mg X.base qO k' f' fd' ps' sp') (hr':qW k' X.A) (hb':jx X.K fd' ps' []) (ha:JA X (e::es) t) (hst:starEach (e::es) X.env=(false,eval e X.env)::starEach es X.env:=by rfl) (hpl:(backTo pos (starEach es X.env)).any (·.1)=false:=by rfl) (ht:eval (.Call (.Attribute o m apos) (e::es) [] pos) X.env=(eval o X.env >>= λov=>standAt apos.atName >>= λ_=>holding [ov] (getMethod ov m pl) >>= λr=>callWith pos r.1 r.2 (backTo pos (starEach (e::es) X.env)) (backToKw pos (keywordEach [] X.env))):=by rfl):JE X (.Call (.Attribute o m apos) (e::es) [] pos) (yC C C' m sp sp' ta t):=.of (by
 have he:=he.to
 have ha:=ha.to
 intro pins s σ H Q I h
 refine PySem.W.methodCall_KW (pl:=pl) (q5 (he pins s σ H _ I h) λu s1 ⟨x,H1,I1,rx,a,dx,fs,ex,l,q⟩=>?_) ht
 subst ex
 obtain rfl:u=Value.ref a:=rx
 rcases q with ⟨ea,q⟩ | ⟨ea,q⟩
 . refine Qk I1 ea c hm l (PySem.W.callWith_K (first:=[.ref a]) (h₀:=X.base) I.ok.mod.kin hm.kp (q5 (ha pos pins s1 σ H1 _ I1 q) λus s2 ⟨vs,H2,I2,r,q2⟩=>⟨I2.kIn,?_⟩) hst hpl)
   exact Zm (us:=.ref a::us) (vs:=.ref a::vs) F hr hb .nil QL I2 (.cons rfl r) (by simpa using q2)
 . refine Qk I1 ea c' hm' l (PySem.W.callWith_K (first:=[.ref a]) (h₀:=X.base) I.ok.mod.kin hm'.kp (q5 (ha pos pins s1 σ H1 _ I1 q) λus s2 ⟨vs,H2,I2,r,q2⟩=>⟨I2.kIn,?_⟩) hst hpl)
   exact Zm (us:=.ref a::us) (vs:=.ref a::vs) F' hr' hb' .nil QL I2 (.cons rfl r) (by simpa using q2))
theorem za {pl:Sem Bool} (he:JE X o ta) (c:z7 X.K C) (hm:Y3 X.K C m f) (F:qm X.prog X.w X.K X.mg X.base qO k f fd ps sp) (hr:qW k X.A) (hb:jx X.K fd ps []) (c':z7 X.K C') (hm':Y3 X.K C' m f') (F':qm X.prog X.w X.K X.mg X.base qO k' f' fd' ps' sp') (hr':qW k' X.A) (hb':jx X.K fd' ps' []) (ht:eval (.Call (.Attribute o m apos) [] [] pos) X.env=(eval o X.env >>= λov=>standAt apos.atName >>= λ_=>holding [ov] (getMethod ov m pl) >>= λr=>callWith pos r.1 r.2 (backTo pos (starEach [] X.env)) (backToKw pos (keywordEach [] X.env))):=by rfl):JE X (.Call (.Attribute o m apos) [] [] pos) (yC C C' m sp sp' ta Zd):=.of (by
 have he:=he.to
 intro pins s σ H Q I h
 refine PySem.W.methodCall_KW (pl:=pl) (q5 (he pins s σ H _ I h) λu s1 ⟨x,H1,I1,rx,a,dx,fs,ex,l,q⟩=>?_) ht
 subst ex
 obtain rfl:u=Value.ref a:=rx
 rcases q with ⟨ea,q⟩ | ⟨ea,q⟩
 . exact Qk I1 ea c hm l (PySem.W.callWith_K0 (first:=[.ref a]) I1.kIn hm.kp (Zm (us:=[.ref a]) (vs:=[.ref a]) F hr hb .nil QL I1 (.cons rfl .nil) q))
 . exact Qk I1 ea c' hm' l (PySem.W.callWith_K0 (first:=[.ref a]) I1.kIn hm'.kp (Zm (us:=[.ref a]) (vs:=[.ref a]) F' hr' hb' .nil QL I1 (.cons rfl .nil) q)))
end
section
variable {X:Cx} {e:Expr} {es:List Expr} {te:TE} {t:TA}
theorem zT {t':TE} (h:JE X e te) (k:∀σ H Q,t' σ H Q->te σ H Q):JE X e t':=.of (by
 have h:=h.to
 exact λpins s σ H Q I q=>h pins s σ H Q I (k σ H Q q))
def tWk (te:TE):TE:=λσ H Q=>∃G:VK,te σ H G/\∀x H1,G x H1->Q x H1
theorem vv (h:JE X e te):JE X e (tWk te):=.of (by
 have h:=h.to
 intro pins s σ H Q I ⟨G,g,k⟩
 exact q5 (h pins s σ H G I g) λv s1 ⟨x,H1,I1,r1,q1⟩=>⟨x,H1,I1,r1,k x H1 q1⟩)
def aWk (t:TA):TA:=λσ H Q=>∃G:List V->Hp->Prop,t σ H G/\∀vs H1,G vs H1->Q vs H1
theorem Mi (h:JA X es t):JA X es (aWk t):=.of (by
 have h:=h.to
 intro pos pins s σ H Q I ⟨G,g,k⟩
 exact q5 (h pos pins s σ H G I g) λus s1 ⟨vs,H1,I1,r1,q1⟩=>⟨vs,H1,I1,r1,k vs H1 q1⟩)
end
end L2
set_option Elab.async false
set_option linter.all false
set_option maxRecDepth 100000
set_option maxHeartbeats 4000000
namespace L2
open PySem PySem.Spec PySem.W PyProof.Rows
theorem Gr:∀(f n r:Nat),r<=1->minRun' f n r<=n+r
 | 0,n,r,_=>Nat.le_refl _
 | f+1,n,r,hr=>by
   rw[minRun'_succ]
   split
   . exact Nat.le_refl _
   . have h1:max r (n % 2)<=1:=Nat.max_le.mpr ⟨hr,by omega⟩
     have:=Gr f (n / 2) (max r (n % 2)) h1
     omega
section
variable {P:Program} {w:World} {B:Around} {F:Value->Shared->Prop} {κ:SortKind} {it:Array Keyed} {z:Shared}
theorem W6 {n:Nat} {R:Nat->Shared->Prop} (hc:∀i,1<=i->i < n->∀C:Bool->Shared->Prop,C false z->kas_cmp P w B κ it i (i - 1) C z) (hR:R n z):
   ∀(f a:Nat),1<=a->a+f=n->(kas_asc (List.toArray (List.range n)) f a).kasWp (kas_cmp P w B κ it) R z
 | 0,a,_,e=>by
   have e':a=n:=by omega
   subst e'
   exact hR
 | f+1,a,h1,e=>by
   have g:∀i,i < n->(List.toArray (List.range n)).getD i 0=i:=λi hi=>by simp [Array.getD,hi]
   show kas_cmp P w B κ it ((List.toArray (List.range n)).getD a 0) ((List.toArray (List.range n)).getD (a - 1) 0) _ z
   rw[g a (by omega),g (a - 1) (by omega)]
   refine hc a h1 (by omega) _ ?_
   show KasT.kasWp _ (if false=true then _ else _) R z
   rw[if_neg Bool.false_ne_true]
   exact W6 hc hR f (a+1) (by omega) (by omega)
theorem kx {n:Nat} {Q:Unit->SortSt->Shared->Prop} (h2:2<=n) (hc:∀i,1<=i->i < n->∀C:Bool->Shared->Prop,C false z->kas_cmp P w B κ it i (i - 1) C z)
   (hQ:∀st,arrOf st=(List.toArray (List.range n)).map (kas_item it)->failedOf st=none->Q () st z):kasC (model P w) B F sortRuns' Q (kas_st κ it (List.toArray (List.range n))) z:=by
 obtain⟨r,rfl⟩:∃r,n=r+2:=⟨n - 2,by omega⟩
 have sz:(List.toArray (List.range (r+2))).size=r+2:=by simp
 have sa:(arrOf (kas_st κ it (List.toArray (List.range (r+2))))).size=r+2:=(Array.size_map ..).trans sz
 have le:=Gr (r+2) (r+2) 0 (by decide)
 rw[sortRuns'_eq]
 refine kasC_bind (kasC_get ?_)
 dsimp only
 rw[sa]
 generalize minRun' (r+2) (r+2) 0=M at le
 refine kasC_bind (kasC_range (show kasC _ _ _ (forIn (0::1::List.range' 2 r) _ _) _ _ _ from kasC_cons ?_))
 dsimp only
 rw[if_neg (by omega)]
 simp only[Nat.sub_zero,Nat.zero_add]
 refine kasC_bind (kas_count_ (G:=λq z'=>q=(r+2,List.toArray (List.range (r+2)))/\z'=z) (by omega) (by rw[sz];exact Nat.le_refl _) (λm p' z' _ _ _ hg=>?_) ?_)
 . obtain⟨e,rfl⟩:=hg
   cases e
   dsimp only
   rw[if_neg (by omega)]
   refine kasC_bind (kasC_get ?_)
   rw[show (pendingOf (kas_st κ it (List.toArray (List.range (r+2))))).back?=none from rfl]
   dsimp only
   refine kasC_bind (kasC_modify (kasC_pure (show kasC _ _ _ (forIn (1::List.range' 2 r) _ _) _ _ _ from kasC_cons ?_)))
   dsimp only
   rw[if_pos (Nat.le_refl _)]
   refine kasC_pure ?_
   dsimp only
   refine kasC_bind (kasC_range (show kasC _ _ _ (forIn (0::1::List.range' 2 r) _ _) _ _ _ from kasC_cons (kasC_bind (kasC_get ?_))))
   rw[if_pos (show (pendingOf (setPending (kas_st κ it (List.toArray (List.range (r+2)))) ((pendingOf (kas_st κ it (List.toArray (List.range (r+2))))).push (0,r+2,0)))).size<=1 from Nat.le_refl 1)]
   refine kasC_pure ?_
   dsimp only
   exact kasC_pure (hQ _ rfl rfl)
 . unfold kas_count
   rw[KasT.kasWp_bind]
   refine W6 hc ?_ _ 1 (Nat.le_refl 1) (by omega)
   rw[if_pos (beq_self_eq_true _)]
   exact⟨rfl,rfl⟩
end
def Jw (h:Heap) (v:Value) (k:Int×Int):Prop:=∃p o n t u,v=.ref p/\h.get? p=some o/\o.cls=.type "tuple"/\o.data=.seq #[.int k.1 t,.int k.2 u] n
def YC (a b:Int×Int):Prop:=a.1 < b.1\/(a.1=b.1/\a.2 < b.2)
section
variable {P:Program} {w:World} {B:Around} {F:Value->Shared->Prop} {z:Shared}
theorem W9 {v u:Value} {a b:Int×Int} (hv:Jw z.heap v b) (hu:Jw z.heap u a) (hlt:YC a b) {C:Bool->Shared->Prop} (hC:C false z):wpAny (model P w) B (keyLt' (tuples' true) v u) C (λ_ _=>False) z:=by
 obtain⟨p,o,n,t1,t2,rfl,h1,_,d1⟩:=hv
 obtain⟨p',o',n',t1',t2',rfl,h1',_,d1'⟩:=hu
 refine kat_lt h1 d1 h1' d1' ?_
 show KatLex P w B true _ C [(.int b.1 t1,.int a.1 t1'),(.int b.2 t2,.int a.2 t2')] 0 z
 refine kat_cons (SeqAt.EqAt.int_int b.1 t1 a.1 t1' P w _ _ ?_)
 rcases hlt with h | ⟨h,h'⟩
 . have e:(b.1==a.1)=false:=by
     rw[beq_eq_false_iff_ne]
     omega
   rw[e]
   refine kat_no (show wpAny _ _ (oneLt' true _ _) _ _ _ from oneLt_int ?_)
   rw[decide_eq_false (by omega)]
   exact hC
 . have e:(b.1==a.1)=true:=by rw[h];exact beq_self_eq_true _
   rw[e]
   refine kat_yes (kat_cons (SeqAt.EqAt.int_int b.2 t2 a.2 t2' P w _ _ ?_))
   have e2:(b.2==a.2)=false:=by
     rw[beq_eq_false_iff_ne]
     omega
   rw[e2]
   refine kat_no (show wpAny _ _ (oneLt' false _ _) _ _ _ from kat_one _ _ (lt_int ?_))
   show C (decide (b.2 < a.2)) z
   rw[decide_eq_false (by omega)]
   exact hC
theorem Jw.keep {h h':Heap} {v:Value} {k:Int×Int} (x:Jw h v k) (kp:∀b o,h.get? b=some o->o.cls=.type "tuple"->h'.get? b=some o):Jw h' v k:=by
 obtain⟨p,o,n,t,u,e,h1,c,d⟩:=x
 exact⟨p,o,n,t,u,e,kp p o h1 c,c,d⟩
theorem Xf (vs:List Value):(pairsOf vs).map (·.2)=vs.toArray:=by
 apply Array.ext'
 rw[Array.toList_map,pairsOf_toList,List.map_snd_zip (Nat.le_refl _)]
theorem UF {h:Heap}:∀(vs:List Value) (ks:List (Int×Int)),vs.length=ks.length->(∀(i:Nat) (v:Value) (k:Int×Int),vs[i]?=some v->ks[i]?=some k->Jw h v k)->∃fs,KatTups h vs fs/\fs.length=vs.length/\∀v∈fs,∃i t,v=Value.int i t
 | [],_,_,_=>⟨[],.nil,rfl,λv hv=>(nomatch hv)⟩
 | v::vs,[],hl,_=>by cases hl
 | v::vs,k::ks,hl,hv=>by
   obtain⟨fs,tf,lf,hf⟩:=UF vs ks (Nat.succ.inj hl) λi u q e1 e2=>hv (i+1) u q (by simpa using e1) (by simpa using e2)
   obtain⟨p,o,n,t,u,rfl,h1,c,d⟩:=hv 0 v k rfl rfl
   refine⟨.int k.1 t::fs,.cons h1 c d rfl tf,by simp [lf],λx hx=>?_⟩
   rcases List.mem_cons.mp hx with e | hx
   . exact⟨_,_,e⟩
   . exact hf x hx
theorem kj {a:Addr} {vs:List Value} {ks:List (Int×Int)} {n:Nat} {R:PySem.Fin->Shared->Prop} (ho:z.heap.get? a=some (seqObj "list" vs.toArray n)) (hl:vs.length=ks.length) (hv:∀(i:Nat) (v:Value) (k:Int×Int),vs[i]?=some v->ks[i]?=some k->Jw z.heap v k)
   (hr:∀(i:Nat) (k k':Int×Int),ks[i]?=some k->ks[i+1]?=some k'->YC k k') (hz:vs.length<=100000)
   (k:R (.done (.ret .none)) {z with heap:=sortedHeap z.heap a vs vs.toArray}):wpAny (model P w) B (Builtin.«list.sort» ⟨[.ref a],[]⟩) R F z:=by
 have na:∀b o,z.heap.get? b=some o->o.cls=.type "tuple"->b≠a:=λb o e c q=>by
   rw[q,ho]at e
   cases e
   exact absurd c (show ¬Value.type "list"=Value.type "tuple" by decide)
 rw[list_sort_plain]
 refine wpAny_bind (listItems_at ho rfl (wpAny_bind (listUpdate_at ho rfl ?_)))
 obtain⟨c1,o1⟩:∃c,(z.heap.update a (Obj.mapSeq λ_=>#[])).get? a=some (seqObj "list" #[] c):=⟨_,get?_update_seq ho (λ_=>#[])⟩
 refine wpAny_bind (seqEpoch_at o1 rfl (wpAny_bind (wpAny_newTuple (wpAny_bind (wpAny_newList (wpAny_holding ?_))))))
 have lt:=Heap.lt_size ho
 have o2:(((z.heap.update a (Obj.mapSeq λ_=>#[])).push (seqObj "tuple" vs.toArray 0)).push (seqObj "list" #[] 0)).get? a=some (seqObj "list" #[] c1):=Heap.get?_push_of_some _ (Heap.get?_push_of_some _ o1)
 have kp:∀b o,z.heap.get? b=some o->o.cls=.type "tuple"->(((z.heap.update a (Obj.mapSeq λ_=>#[])).push (seqObj "tuple" vs.toArray 0)).push (seqObj "list" #[] 0)).get? b=some o:=λb o e c=>
   Heap.get?_push_of_some _ (Heap.get?_push_of_some _ ((Heap.get?_update_other _ _ (Ne.symm (na b o e c))).trans e))
 show wpAny (model P w) B _ R F {z with heap:=((z.heap.update a (Obj.mapSeq λ_=>#[])).push (seqObj "tuple" vs.toArray 0)).push (seqObj "list" #[] 0)}
 dsimp only
 have sv:vs.toArray.size=vs.length:=by simp
 have ends:∀st:SortSt,(arrOf st).map (·.2)=vs.toArray->failedOf st=none->wpAny (model P w) B (do
     let touched:=(<-seqEpoch a) != c1
     Builtin.List.listUpdate (.ref a) λ_=>(arrOf st).map (·.2)
     if let some e:=failedOf st then rule "list.sort.comparison-raised";throw e
     if touched then rule "list.sort.modified";raiseError "ValueError" "list modified during sort"
     ret .none) R F {z with heap:=((z.heap.update a (Obj.mapSeq λ_=>#[])).push (seqObj "tuple" vs.toArray 0)).push (seqObj "list" #[] 0)}:=λst e f=>by
   refine wpAny_bind (seqEpoch_at o2 rfl ?_)
   rw[e,f]
   refine wpAny_bind (listUpdate_at o2 rfl ?_ (hsz2:=by rw[sv,sizeLine_eq];omega))
   simp only[bne_self_eq_false,Bool.false_eq_true,if_false]
   exact wpAny_pure k
 by_cases h2:vs.toArray.size < 2
 . rw[if_pos h2,if_pos h2]
   refine wpAny_bind (wpAny_pure ?_)
   rw[StateT.run_pure]
   refine wpAny_bind (wpAny_pure ?_)
   exact ends (SortSt.mk' general' (vs.toArray.zip vs.toArray) #[] 7 none) (Xf vs) rfl
 . rw[if_neg h2,if_neg h2]
   have l2:2<=vs.length:=by omega
   have hv':∀(i:Nat) (v:Value) (q:Int×Int),vs[i]?=some v->ks[i]?=some q->Jw (((z.heap.update a (Obj.mapSeq λ_=>#[])).push (seqObj "tuple" vs.toArray 0)).push (seqObj "list" #[] 0)) v q:=λi v q e1 e2=>(hv i v q e1 e2).keep kp
   obtain⟨fs,tf,lf,hf⟩:=UF vs ks hl hv'
   refine wpAny_bind (kat_kind (T:=.type "int") tf (by omega) (λv q=>?_) rfl ?_)
   . obtain⟨i,t,rfl⟩:=hf v q
     exact Looks.of_pure rfl
   . have e:vs.toArray.zip vs.toArray=(List.toArray (List.range vs.length)).map (kas_item (pairsOf vs)):=by
       have:=kas_range (pairsOf vs)
       rw[pairsOf_size]at this
       exact this.symm
     rw[e]
     have run:kasC (model P w) B F sortRuns' (λ_ st z'=>z'={z with heap:=((z.heap.update a (Obj.mapSeq λ_=>#[])).push (seqObj "tuple" vs.toArray 0)).push (seqObj "list" #[] 0)}/\(arrOf st).map (·.2)=vs.toArray/\failedOf st=none)
         (kas_st (tuples' true) (pairsOf vs) (List.toArray (List.range vs.length))) {z with heap:=((z.heap.update a (Obj.mapSeq λ_=>#[])).push (seqObj "tuple" vs.toArray 0)).push (seqObj "list" #[] 0)}:=by
       refine kx l2 (λi i1 i2 C hC=>?_) λst e1 e2=>⟨rfl,by rw[e1,<-e];exact Xf vs,e2⟩
       unfold kas_cmp
       rw[kas_item_eq,kas_item_eq]
       have g:∀j,j < vs.length->vs[j]?=some (vs.getD j Value.none):=λj hj=>by simp [hj]
       have gk:∀j,j < vs.length->∃q,ks[j]?=some q:=λj hj=>⟨_,List.getElem?_eq_getElem (by omega)⟩
       obtain⟨q1,eq1⟩:=gk i i2
       obtain⟨q0,eq0⟩:=gk (i - 1) (by omega)
       have eq1':ks[i - 1+1]?=some q1:=by rw[show i - 1+1=i by omega];exact eq1
       exact W9 (hv' i _ q1 (g i i2) eq1) (hv' (i - 1) _ q0 (g (i - 1) (by omega)) eq0) (hr (i - 1) q0 q1 eq0 eq1') hC
     refine wpAny_bind (wpAny_mono run (λr z' h3=>?_) λ_ _ x=>x)
     obtain⟨⟨⟩,st⟩:=r
     obtain⟨rfl,e1,e2⟩:=h3
     exact ends st e1 e2
end
end L2
set_option Elab.async false
set_option linter.all false
set_option maxRecDepth 100000
set_option maxHeartbeats 4000000
namespace PySem
def Y2 (h:Heap) (d:Addr) (es:Array DictEntry) (ep:Nat):Prop:=∃o,h.get? d=some o/\o.ExactDict/\o.data=.dict es ep
theorem Y2.keep {h h':Heap} {d:Addr} {es:Array DictEntry} {ep:Nat} (x:Y2 h d es ep) (k:∀o,h.get? d=some o->h'.get? d=some o):Y2 h' d es ep:=let ⟨o,e,r⟩:=x;⟨o,k o e,r⟩
section
variable {P:Program} {w:World} {B:Around} {F':Value->Shared->Prop} {z:Shared} {d I:Addr} {es:Array DictEntry} {ep i:Nat}
theorem Y2.ty (x:Y2 z.heap d es ep):z.TypeIs (.ref d) "dict":=let ⟨o,e,c,_⟩:=x;⟨o,e,c.1⟩
theorem y8 {R:Value->Shared->Prop} (hd:(d==sysModules)=false) (x:Y2 z.heap d es ep)
   (k:R (.ref z.heap.objs.size) {z with heap:=z.heap.push {cls:=.type "dict_keyiterator",data:=.fields #[.ref d,.int 0 0,.int es.size 0,.int ep 0]}}):wpAny (model P w) B (pyIter (.ref d)) R F' z:=by
 have ty:=x.ty
 obtain⟨o,ho,_,dat⟩:=x
 refine wpAny_pyIter_slot ty F.slot_dict_iter (wpAny_call_entry F.slot_dict_iter ty F.entry_dict_iter ?_ (F.args_dict_iter_1 _))
 unfold Builtin.«dict.__iter__»
 refine wpAny_bind (show wpAny _ _ (Builtin.Dict.dictSlotNone _ _) _ _ _ from ?_)
 unfold Builtin.Dict.dictSlotNone
 refine wpAny_bind (wpAny_notOrdered_dict ty (show wpAny _ _ (pure (Value.ref d)) _ _ z from wpAny_pure ?_))
 refine(show wpAny _ _ (Builtin.Dict.showsAll d >>= _) _ _ z from ?_)
 unfold Builtin.Dict.showsAll
 rw[if_neg (by rw[hd];exact Bool.false_ne_true)]
 refine wpAny_bind (wpAny_pure (wpAny_bind (wpAny_dictEntries ho dat (wpAny_bind (wpAny_dictEpoch ho dat ?_)))))
 exact wpAny_bind (wpAny_newObj_type (wpAny_pure ⟨_,rfl,"dict_keyiterator",_,⟨_,Heap.get?_push_size _ rfl,rfl⟩,F.slot_dict_keyiterator_next.lookup,by simpa [rawInt] using k⟩))
theorem y7 {R:Option Value->Shared->Prop} (hit:z.heap.IsKeyIter I d i es.size ep) (x:Y2 z.heap d es ep) (hi:i < es.size)
   (k:∀h',h'.IsKeyIter I d (i+1) es.size ep->Heap.SameBut I z.heap h'->R (some es[i].key) {z with heap:=h'}):wpAny (model P w) B (pyNext (.ref I)) R F' z:=by
 obtain⟨o,ho,hc,hd⟩:=id hit
 obtain⟨od,hod,_,dat⟩:=x
 have ty:=hit.typeIs
 unfold pyNext
 refine wpAny_bind (wpAny_attempt (wpAny_callSpecial?_slot (name:=Str.ofString "__next__") ty F.slot_dict_keyiterator_next (wpAny_call_entry F.slot_dict_keyiterator_next ty F.entry_dict_keyiterator_next ?_ (F.args_dict_keyiterator_next_1 _))))
 refine wpAny_bind (wpAny_pure (wpAny_bind (wpAny_bind (wpAny_bind ?_))))
 first | refine wpAny_typeNameOfWhole_keyiter ty (wpAny_pure (wpAny_bind (wpAny_fieldsOf ho hd ?_))) | refine wpAny_typeNameOf_keyiter ty (wpAny_pure (wpAny_bind (wpAny_fieldsOf ho hd ?_)))
 have own:Builtin.Dict_items.ownsTuple "dict_keyiterator"=false:=by decide
 simp only[own,Bool.false_eq_true,if_false]
 show wpAny _ _ (if (Value.ref d==Value.none)=true then _ else _) _ _ z
 rw[if_neg (show ¬((Value.ref d==Value.none)=true) from Bool.false_ne_true)]
 refine wpAny_bind (wpAny_pure (wpAny_bind (wpAny_dictEntries hod dat ?_)))
 rw[if_neg (by simp)]
 refine wpAny_bind (wpAny_pure (wpAny_bind (wpAny_dictEpoch hod dat ?_)))
 rw[if_neg (by simp)]
 refine wpAny_pure ?_
 simp only[show ¬((i:Int) < 0) from by omega,if_false,Int.toNat_natCast,Array.getElem?_eq_getElem hi]
 refine wpAny_bind (wpAny_bind ?_)
 first | refine wpAny_typeNameOfWhole_keyiter ty (wpAny_pure (wpAny_bind (wpAny_isOneOf_keyiter ty ?_))) | refine wpAny_typeNameOf_keyiter ty (wpAny_pure (wpAny_bind (wpAny_isOneOf_keyiter ty ?_)))
 refine(show wpAny _ _ (setField (.ref I) 1 (rawInt ((i:Int)+1)) >>= _) _ _ z from wpAny_bind (wpAny_setField ho hd (by simp) ?_))
 have hit':(z.heap.update I (Obj.mapFields (·.setIfInBounds 1 (rawInt ((i:Int)+1))))).IsKeyIter I d (i+1) es.size ep:=
   ⟨_,Heap.get?_update_self _ ho (Obj.isFreed_of_fields (Obj.data_mapFields hd _)),(Obj.cls_mapFields ..).trans hc,by rw[Obj.data_mapFields hd];simp [rawInt]⟩
 refine wpAny_bind (wpAny_holding (wpAny_bind (wpAny_isOneOf_keyiter (s:={z with heap:=z.heap.update I (Obj.mapFields (·.setIfInBounds 1 (rawInt ((i:Int)+1))))}) hit'.typeIs ?_)))
 refine(show wpAny _ _ (pure es[i].key) _ _ _ from wpAny_pure (wpAny_pure ⟨_,rfl,wpAny_pure (k _ hit' (Heap.SameBut.update ..))⟩))
theorem u3 {R:Option Value->Shared->Prop} (hB:B.handled=none) (hit:z.heap.IsKeyIter I d i es.size ep) (x:Y2 z.heap d es ep) (hi:es.size<=i)
   (k:∀h',Heap.ExtBut I z.heap h'->R none {z with heap:=h'}):wpAny (model P w) B (pyNext (.ref I)) R F' z:=by
 obtain⟨o,ho,hc,hd⟩:=id hit
 obtain⟨od,hod,_,dat⟩:=x
 have ty:=hit.typeIs
 unfold pyNext
 refine wpAny_bind (wpAny_attempt (wpAny_callSpecial?_slot (name:=Str.ofString "__next__") ty F.slot_dict_keyiterator_next (wpAny_call_entry F.slot_dict_keyiterator_next ty F.entry_dict_keyiterator_next ?_ (F.args_dict_keyiterator_next_1 _))))
 refine wpAny_bind (wpAny_pure (wpAny_bind (wpAny_bind (wpAny_bind ?_))))
 first | refine wpAny_typeNameOfWhole_keyiter ty (wpAny_pure (wpAny_bind (wpAny_fieldsOf ho hd ?_))) | refine wpAny_typeNameOf_keyiter ty (wpAny_pure (wpAny_bind (wpAny_fieldsOf ho hd ?_)))
 have own:Builtin.Dict_items.ownsTuple "dict_keyiterator"=false:=by decide
 simp only[own,Bool.false_eq_true,if_false]
 show wpAny _ _ (if (Value.ref d==Value.none)=true then _ else _) _ _ z
 rw[if_neg (show ¬((Value.ref d==Value.none)=true) from Bool.false_ne_true)]
 refine wpAny_bind (wpAny_pure (wpAny_bind (wpAny_dictEntries hod dat ?_)))
 rw[if_neg (by simp)]
 refine wpAny_bind (wpAny_pure (wpAny_bind (wpAny_dictEpoch hod dat ?_)))
 rw[if_neg (by simp)]
 refine wpAny_pure ?_
 simp only[show ¬((i:Int) < 0) from by omega,if_false,Int.toNat_natCast,Array.getElem?_eq_none hi]
 refine wpAny_bind (wpAny_bind ?_)
 first | refine wpAny_typeNameOfWhole_keyiter ty (wpAny_pure ?_) | refine wpAny_typeNameOf_keyiter ty (wpAny_pure ?_)
 refine(show wpAny _ _ (setField (.ref I) 0 .none >>= _) _ _ z from wpAny_bind (wpAny_setField ho hd (by simp) ?_))
 refine(show wpAny _ _ (newExc (.type "StopIteration") [] >>= _) _ _ _ from wpAny_bind ?_)
 simp only[newExc,newTuple]
 refine wpAny_bind (wpAny_newObj_type (wpAny_bind (m:=firstArgMember _ _) (wpAny_of_eq (a:=Value.none) (by first | rfl | (simp only[firstArgMember];rfl)) (wpAny_newObj_type ?_ (by size_fits)))) (by size_fits))
 simp only[raiseNew]
 refine wpAny_bind (wpAny_handled ?_)
 rw[show B.in1.handled=none from hB]
 refine wpAny_bind (wpAny_pure (wpAny_throw ?_))
 refine wpAny_bind (wpAny_isInstance (T:="StopIteration") (b:=true) ⟨_,Heap.get?_push_size _ rfl,rfl⟩ isSubtype_stop ?_)
 exact wpAny_pure (k _ ((((Heap.SameBut.update ..).extBut).push _).push _))
end
end PySem
namespace PySem
open PySem.W
section
variable {P:Program} {w:World} {d:Addr} {es:Array DictEntry} {ep:Nat}
theorem ky {B:Around} (hB:B.handled=none) (I:Addr) (hne:d≠I):Walks P w B I [I,d] [I] es.size (λi v=>∃h:i < es.size,v=es[i].key) (λi h=>h.IsKeyIter I d i es.size ep/\Y2 h d es ep) where
 sub:=λb hb=>by simp at hb;simp [hb]
 frame:=λ_ _ _ st k=>⟨st.1.at λo e=>k I (by simp) o e,st.2.keep λo e=>k d (by simp) o e⟩
 item:=λi z R G hi st q=>y7 st.1 st.2 hi λh' it' sb=>q _ h' z.toks ⟨hi,rfl⟩ ⟨it',st.2.keep λo e=>sb.extBut d o hne e⟩ λb o hb e=>sb.extBut b o (λx=>hb (by simp [x])) e
 done:=λz R G st q=>u3 hB st.1 st.2 (Nat.le_refl _) λh' eb=>q h' z.toks λb o hb e=>eb b o (λx=>hb (by simp [x])) e
 self:=λ_ _ _ _ st q=>wpAny_pyIter_keyiter st.1 q
theorem u0 (hd:(d==sysModules)=false):KdlSrc P w "dict" d d es.size (λi v=>∃h:i < es.size,v=es[i].key) (λh=>Y2 h d es ep) where
 type:=λz x=>x.ty
 there:=λh x=>let ⟨o,e,_⟩:=x;⟨Heap.lt_size e,Heap.lt_size e⟩
 keep:=λh h' x k=>x.keep λo e=>k d (.inl rfl) o e
 notList:=by decide
 notTuple:=by decide
 hint:=λ_ _ _ _ x q=>kdl_hint_dict x.ty q
 iter:=λA z hh x=>⟨_,_,λE Q q=>y8 hd x q,ky hh _ (let ⟨o,e,_⟩:=x;Nat.ne_of_lt (Heap.lt_size e)),⟨⟨_,Heap.get?_push_size _ rfl,rfl,rfl⟩,x.keep λo e=>Heap.get?_push_of_some _ e⟩⟩
end
end PySem
namespace L2
open PySem PySem.Spec PySem.W PyProof.Rows
theorem Jm {α β:Type} {G:α->β->Prop}:∀{l:List α} {m:List β},Paired G l m->∀{i:Nat} {a:α},l[i]?=some a->∃b,m[i]?=some b/\G a b
 | _,_,.nil,i,a,e=>by simp at e
 | _,_,.cons r t,0,a,e=>by cases e;exact⟨_,rfl,r⟩
 | _,_,.cons r t,i+1,a,e=>by
   obtain⟨b,eb,g⟩:=Jm t (by simpa using e)
   exact⟨b,by simpa using eb,g⟩
section
variable {X:Cx}
def zm (k:Int×Int):List qE:=[Sum.inl k.1,Sum.inl k.2]
def Rp:List V->Hp->VK->Prop:=λxs H Q=>∃(a:Addr) (kvs:List (List qE×V)) (ks:List (Int×Int)),xs=[.ref a]/\H a=some (.dT kvs)/\kvs.map (·.1)=ks.map zm/\(∀(i:Nat) (k k':Int×Int),ks[i]?=some k->ks[i+1]?=some k'->YC k k')/\kvs.length<=1000/\
 ∀(l:Addr) (ps:List Addr),H l=none->ps.length=ks.length->(∀(i:Nat) (p:Addr) (k:Int×Int),ps[i]?=some p->ks[i]?=some k->H p=some (.tup [.int k.1,.int k.2]))->Q (.ref l) (upd H l (.lst (ps.map V.ref)))
theorem WO:∀(ps:List Addr),qD (ps.map V.ref) (ps.map Value.ref)
 | []=>.nil
 | p::ps=>.cons rfl (WO ps)
theorem Uo (hc:X.calm=true):Qs X (.builtin "sorted") Rp:=by
 intro pins s σ H xs us Q I r h
 obtain⟨a,kvs,ks,rfl,ea,eks,hr,hz,q⟩:=h
 obtain⟨u,rfl,ru⟩:=Q7 r
 cases ru
 obtain⟨_,hsys,ys,pr,o,es,ep,eo,ex,dat,ents,_⟩:=(show qG X.prog X.w H s.heap a (.dT kvs) from I.hok a _ ea)
 have ly:kvs.length=ys.length:=Paired.length pr
 have lk:kvs.length=ks.length:=by simpa using congrArg List.length eks
 have se:es.size=ys.length:=by rw[<-Array.length_toList,ents,List.length_map]
 have key:∀i (hi:i < es.size),es[i].key=.ref ((ys.map (·.2.1)).getD i 0):=λi hi=>by
   have e1:es.toList[i]?=some es[i]:=by simp [hi]
   have hy:i < ys.length:=by omega
   rw[ents,List.getElem?_map,List.getElem?_eq_getElem hy]at e1
   have e2:=(Option.some.inj e1).symm
   rw[e2]
   show Value.ref ys[i].2.1=_
   simp [hy]
 have tup:∀(i:Nat) (p:Addr) (k:Int×Int),(ys.map (·.2.1))[i]?=some p->ks[i]?=some k->H p=some (.tup [.int k.1,.int k.2]):=λi p k e1 e2=>by
   rw[List.getElem?_map]at e1
   cases ey:ys[i]? with
   | none=>rw[ey]at e1;cases e1
   | some y=>
     rw[ey]at e1
     have ep':y.2.1=p:=Option.some.inj e1
     have hi:i < kvs.length:=by
       have:=(List.getElem?_eq_some_iff.mp ey).1
       omega
     obtain⟨y',ey',g1,g2,_⟩:=Jm pr (List.getElem?_eq_getElem hi)
     rw[ey]at ey'
     cases ey'
     have ek:kvs[i].1=zm k:=by
       have h1:(kvs.map (·.1))[i]?=some kvs[i].1:=by rw[List.getElem?_map,List.getElem?_eq_getElem hi];rfl
       rw[eks,List.getElem?_map,e2]at h1
       exact(Option.some.inj h1).symm
     rw[ek,ep']at g2
     exact g2
 have hh:X.A.in1.handled=none:=I.ok.hd hc
 refine Calls.call_function_entry kind_sorted plain_sorted entry_sorted (args_sorted1 _) ?_
 unfold Builtin.«sorted»
 refine wpAny_bind (m:=checkCount "sorted" 1 1 _) (wpAny_pure ?_)
 refine wpAny_bind (kdu_collect (u0 (es:=es) (ep:=ep) hsys) hh ⟨o,eo,ex,dat⟩ (by rw[se,sizeLine_eq];omega) λh1 tk acc k1 it=>?_)
 have eacc:acc.toList=(ys.map (·.2.1)).map Value.ref:=by
   refine List.ext_getElem? λi=>?_
   by_cases hi:i < es.size
   . have ha:i < acc.size:=by rw[it.1];exact hi
     have e1:acc[i]?=some acc[i]:=Array.getElem?_eq_getElem ha
     obtain⟨h',e2⟩:=it.2 i _ e1
     rw[Array.getElem?_toList,e1,e2,key i hi,List.getElem?_map]
     have hy:i < (ys.map (·.2.1)).length:=by rw[List.length_map];omega
     rw[List.getElem?_eq_getElem hy]
     simp [List.getD_eq_getElem?_getD,List.getElem?_eq_getElem hy]
   . rw[List.getElem?_eq_none (by rw[Array.length_toList,it.1];omega),List.getElem?_eq_none (by rw[List.length_map,List.length_map];omega)]
 rw[eacc]
 generalize hps:ys.map (·.2.1)=ps at eacc tup key
 have lp:ps.length=ks.length:=by rw[<-hps,List.length_map];omega
 refine wpAny_bind (wpAny_newList ?_)
 have I1:qx X pins σ H {s with heap:=h1,toks:=tk}:=I.kept (t':=tk) k1
 show wpAny _ _ _ _ _ {s with heap:=h1.push (seqObj "list" (ps.map Value.ref).toArray 0),toks:=tk}
 have oL:(h1.push (seqObj "list" (ps.map Value.ref).toArray 0)).get? h1.objs.size=some (seqObj "list" (ps.map Value.ref).toArray 0):=Heap.get?_push_size _ rfl
 have pa:∀(i:Nat) (v:Value) (k:Int×Int),(ps.map Value.ref)[i]?=some v->ks[i]?=some k->Jw (h1.push (seqObj "list" (ps.map Value.ref).toArray 0)) v k:=λi v k e1 e2=>by
   rw[List.getElem?_map]at e1
   cases ep1:ps[i]? with
   | none=>rw[ep1]at e1;cases e1
   | some p=>
     rw[ep1]at e1
     obtain rfl:=(Option.some.inj e1).symm
     obtain⟨its,rv,⟨ob,eb,cb,nb,db⟩,_⟩:=I1.tuple (.of (tup i p k ep1 e2):SqT X.K H p _)
     cases rv with
     | cons r1 rv=>
       cases rv with
       | cons r2 rv=>
         cases rv
         obtain⟨t1,rfl⟩:=r1
         obtain⟨t2,rfl⟩:=r2
         exact⟨p,ob,nb,t1,t2,rfl,Heap.get?_push_of_some _ eb,cb,db⟩
 refine wpAny_bind (wpAny_holding (wpAny_call_entry slot_list_sort ⟨_,oL,rfl⟩ entry_list_sort (kj oL (by rw[List.length_map];exact lp) pa hr (by rw[List.length_map];omega) ⟨_,rfl,?_⟩) (args_list_sort _)))
 refine wpAny_pure ⟨_,rfl,?_⟩
 have lne:∀b o,h1.get? b=some o->b≠h1.objs.size:=λb o e=>Nat.ne_of_lt (Heap.lt_size e)
 have kf:∀b o,h1.get? b=some o->(sortedHeap (h1.push (seqObj "list" (ps.map Value.ref).toArray 0)) h1.objs.size (ps.map Value.ref) (ps.map Value.ref).toArray).get? b=some o:=λb o e=>by
   unfold sortedHeap
   rw[Heap.get?_update_other _ _ (Ne.symm (lne b o e))]
   exact Heap.get?_push_of_some _ (Heap.get?_push_of_some _ ((Heap.get?_update_other _ _ (Ne.symm (lne b o e))).trans (Heap.get?_push_of_some _ e)))
 obtain⟨c2,o2⟩:∃c,((h1.push (seqObj "list" (ps.map Value.ref).toArray 0)).update h1.objs.size (Obj.mapSeq λ_=>#[])).get? h1.objs.size=some (seqObj "list" #[] c):=⟨_,get?_update_seq oL (λ_=>#[])⟩
 obtain⟨c3,o3⟩:∃c,(sortedHeap (h1.push (seqObj "list" (ps.map Value.ref).toArray 0)) h1.objs.size (ps.map Value.ref) (ps.map Value.ref).toArray).get? h1.objs.size=some (seqObj "list" (ps.map Value.ref).toArray c):=
   ⟨_,get?_update_seq (Heap.get?_push_of_some _ (Heap.get?_push_of_some _ o2)) (λ_=>(ps.map Value.ref).toArray)⟩
 refine⟨.ref h1.objs.size,_,I1.laid (t':=tk) (o:=.lst (ps.map V.ref)) kf (Nat.le_refl _) ⟨by rw[List.length_map,lp,<-lk];exact Nat.le_of_lt (qp hz),_,c3,WO ps,o3⟩,rfl,?_⟩
 exact q _ ps (I1.hok.fresh (Nat.le_refl _)) lp tup
end
end L2
set_option Elab.async false
set_option linter.all false
set_option maxRecDepth 100000
set_option maxHeartbeats 4000000
namespace L2
open PySem PySem.Spec PySem.W PyProof.Rows
section
variable {X:Cx}
def M7:V->Option Int->Option Int->Hp->VK->Prop:=λx lo hi H Q=>∃(z:Str) (j:Int),x=.str z/\lo=none/\hi=some j/\z.length<=1000/\Q (.str (Txt.slice z none (some j))) H
theorem yR:Mt X M7:=by
 intro pins s σ H x v vl vu lo hi sl Q I rx hs pl pu h
 obtain⟨z,j,rfl,rfl,rfl,hz,q⟩:=h
 obtain⟨t,rfl⟩:=rx
 refine⟨"str",_,PySem.F.slot_str_getitem.lookup,typeIs_str _ _ _,?_⟩
 cases pl
 cases pu
 exact wpAny_getItem_str_slice (l:=none) (u:=some (j,_)) (st:=none) hs rfl (post_val_or_str ⟨Nat.le_trans (Txt.slice_le z none (some j)) (Nat.le_of_lt (qp hz)),λt' k=>⟨.str _,H,I.tok k,⟨t',rfl⟩,q⟩⟩)
theorem Yc (z:Str) (j:Nat):(Txt.slice z none (some (j:Int))).cps.toList=z.cps.toList.take j:=by
 have hl:z.cps.toList.length=z.length:=Array.length_toList
 have idx:Builtin.Str.strSliceIndices none (some (j:Int)) 1 z.length=(List.range (min j z.length)).map (0+·):=by
   have e:Builtin.Str.strSliceIndices none (some (j:Int)) 1 z.length=sliceRange ((0:Nat):Int) ((min j z.length:Nat):Int) 1:=by
     unfold Builtin.Str.strSliceIndices
     simp only[show (1:Int) > 0 by decide,if_true,show ¬((j:Int) < 0) by omega,if_false]
     congr 1
     omega
   rw[e,sliceRange_one]
   rfl
 unfold Txt.slice
 rw[idx]
 split
 . rename_i h
   have hm:min j z.length=z.length:=by simpa using h
   rw[List.take_of_length_le]
   omega
 . rw[pick_run]
   show (z.cps.toList.drop 0).take (min j z.length)=_
   rw[List.drop_zero]
   by_cases hj:j<=z.length
   . rw[Nat.min_eq_left hj]
   . rw[Nat.min_eq_right (by omega),List.take_of_length_le (by omega),List.take_of_length_le (by omega)]
def K9 (n:Nat):List V:=(List.range n).map λi=>V.int (i:Nat)
def tLr (te:TE):TE:=λσ H Q=>te σ H λx H1=>∃n:Nat,x=.int n/\n<=1000/\∀l,H1 l=none->Q (.ref l) (upd H1 l (.lst (K9 n)))
theorem uh {n:Nat} {acc:Array Value} (h:ItemsOf (λi v=>∃t,v=.int (0+i*1) t) acc n):qD (K9 n) acc.toList:=by
 obtain⟨hz,hv⟩:=h
 refine kE _ _ (by simp [K9,hz]) λi x u h1 h2=>?_
 have h2':acc[i]?=some u:=by simpa using h2
 obtain⟨t,rfl⟩:=hv i u h2'
 have hi:i < n:=by
   have:=(Array.getElem?_eq_some_iff.mp h2').1
   omega
 unfold K9 at h1
 rw[List.getElem?_map,List.getElem?_range hi]at h1
 obtain rfl:=(Option.some.inj h1).symm
 refine⟨t,?_⟩
 congr 1
 omega
variable {e:Expr} {te:TE} {p1 p3 pos1 pos3:Pos}
theorem Mh (hc:X.calm=true) (g1:Gl X "list") (m1:X.mg "list"=none) (g3:Gl X "range") (m3:X.mg "range"=none) (ha:JE X e te) (hs:starEach [e] X.env=[(false,eval e X.env)]:=by rfl) (hs2:starEach [.Call (.Name "range" p3) [e] [] pos3] X.env=[(false,eval (.Call (.Name "range" p3) [e] [] pos3) X.env)]:=by rfl):JE X (.Call (.Name "list" p1) [.Call (.Name "range" p3) [e] [] pos3] [] pos1) (tLr te):=.of (by
 have ha:=ha.to
 intro pins s σ H Q I h
 refine Call_ (Q4 I g1 m1 boot_list (PyProof.Rows.callWith_type1 (yI hs2 ?_) (by rw[hs2];rfl) rfl))
 refine Call_ (Q4 I g3 m3 boot_range (PyProof.Rows.callWith_type1 (yI hs (q5 (ha pins s σ H _ I h) λu s1 ⟨x,H1,I1,r1,q1⟩=>?_)) (by rw[hs];rfl) rfl))
 obtain⟨n,rfl,hn,q⟩:=q1
 obtain⟨t,rfl⟩:=r1
 refine call_range_1 ?_
 refine call_list_range (n:=n) (I1.ok.hd hc) (IsRange.new ..) (small_one (by omega) (by omega) (by omega) (by omega)) (vb n) (by omega) λh' tk acc' c' kp e hi=>?_
 have s1z:s1.heap.objs.size<=(s1.heap.push ({cls:=.type "range",data:=.fields #[.int 0 s1.toks,.int n t,.int 1 (s1.toks+1)]}:Obj)).objs.size:=by
   rw[Heap.size_push]
   omega
 exact⟨.ref _,_,I1.laid (t':=tk) (o:=.lst (K9 n)) (λb o eb=>kp b o (Heap.get?_push_of_some _ eb)) s1z ⟨by simp only[K9,List.length_map,List.length_range];exact Nat.le_of_lt (qp hn),acc'.toList,c',uh hi,by simpa using e⟩,rfl,q _ (I1.hok.fresh s1z)⟩)
theorem yo (hc:X.calm=true):Qs X (.type "set") (λxs H Q=>∃(p:Addr) (ns:List Int),xs=[.ref p]/\SqL X.K H p (ns.map V.int)/\ns.length<=1000/\∀l S,H l=none->Q (.ref l) (upd H l (.set S (firstMet (λi=>ns.getD i 0) ns.length).length))):=by
 intro pins s σ H xs us Q I r h
 obtain⟨p,ns,rfl,hq,hz,q⟩:=h
 obtain⟨u,rfl,ru⟩:=Q7 r
 cases ru
 obtain⟨its,rv,pl,_⟩:=I.list hq
 have hl:=rv.length
 rw[List.length_map]at hl
 have hsz:its.toArray.size=ns.length:=by rw[List.size_toArray,<-hl]
 refine call_set_list (ns:=ns) (I.ok.hd hc) pl.isList (by simpa using Ub rv) (by rw[hsz];show ns.length+1 < 4096;omega) λh' tk so kp=>?_
 rw[hsz]at so
 exact⟨.ref s.heap.objs.size,_,I.laid (t':=tk) (o:=.set _ _) (λb o e=>kp b o (Heap.lt_size e) e) (Nat.le_refl _) so,rfl,q _ _ (I.hok.fresh (Nat.le_refl _))⟩
theorem VA:Qs X (.builtin "len") (λxs H Q=>∃a S n,xs=[V.ref a]/\H a=some (.set S n)/\Q (.int (n:Nat)) H):=by
 intro pins s σ H xs us Q I r h
 obtain⟨a,S,n,rfl,ea,q⟩:=h
 obtain⟨u,rfl,ru⟩:=Q7 r
 cases ru
 obtain⟨o,es,ep,t,e1,e2,e3,_,_,b,f,rfl⟩:=(show qG X.prog X.w H s.heap a (.set S n) from I.hok a _ ea)
 refine call_len_set e1 e2 e3 f (by have:es.size < 4096:=b;omega) ⟨.int _,H,I.tok _,⟨_,rfl⟩,q⟩
end
end L2
set_option Elab.async false
set_option linter.all false
set_option maxRecDepth 100000
set_option maxHeartbeats 4000000
namespace L2
open PySem PySem.Spec PyProof.Rows
def Mx (K:PySem.W.Frag) (a:Addr):It:=⟨λi H=>∃xs x,SqL K H a xs/\xs[i]?=some x,
 λi H v H'=>∃p,H p=none/\v=.ref p/\∀xs x,SqL K H a xs->xs[i]?=some x->H'=upd H p (.tup [.int (i:Nat),x]),
 λi H=>∃xs,SqL K H a xs/\xs.length<=i⟩
theorem vY {P:Program} {w:World} {K:PySem.W.Frag} {elts:List Expr} {x1:Nat} {tpos:Pos} (a e it:Addr) (hne:e≠it):
   VD P w K (.Tuple elts x1 tpos) (Mx K a) [e,it] e (λi h=>(∃old,IsEnum h e it i old)/\h.IsListIter it a i) where
 mem:=by simp
 obj:=λi h st c hc=>by
   obtain⟨⟨old,he⟩,⟨o1,e1,c1,d1⟩⟩:=st
   simp only[List.mem_cons,List.mem_nil_iff,or_false]at hc
   rcases hc with rfl | rfl
   . exact⟨_,he,λv z=>by cases z⟩
   . exact⟨o1,e1,λv z=>by rw[d1]at z;cases z⟩
 keep:=λi h h' st k=>by
   obtain⟨⟨old,he⟩,h1⟩:=st
   exact⟨⟨old,k e (by simp) _ he⟩,h1.at λo e=>k it (by simp) o e⟩
 item:=by
   intro X hP hw hK hc i pins s σ H E I hf st hg
   subst hP hw hK
   obtain⟨⟨old,he⟩,h1⟩:=st
   obtain⟨xs,x,qa,hx⟩:=hg
   obtain⟨its,rv,p,_⟩:=I.list qa
   obtain⟨u,hu,ru⟩:=rv.get hx
   refine wpAny_pyNext_enum_item he h1 p.isList (x:=u) (by simpa using hu) hne λh' z1 z2 z3 z4 kk=>⟨_,rfl,?_⟩
   refine wpAny_letOwnedTupleGo_enum z1 λh'' z1' sb=>?_
   have nT:∀c o,s.heap.get? c=some o->s.heap.objs.size≠c:=λc o e=>Nat.ne_of_gt (Heap.lt_size e)
   have kT:∀c o,c≠e->h'.get? c=some o->h''.get? c=some o:=λc o hc e=>(sb.2 c hc).trans e
   have I1:qx X pins σ (upd H s.heap.objs.size (.tup [.int (i:Nat),x])) {s with heap:=h'',toks:=s.toks+1}:=I.turnLaid (L:=[e,it]) (t':=s.toks+1)
     (λc o hc e=>kT c o (λz=>hc (by simp [z])) (kk c o (λz=>hc (by simp [z])) (λz=>hc (by simp [z])) e)) hf (Nat.le_refl _)
     ⟨by show 2<=sizeLine;decide,[.int i s.toks,u],.cons ⟨_,rfl⟩ (.cons ru .nil),⟨_,kT _ _ (nT _ _ he) z3,rfl,_,rfl⟩⟩
   refine⟨.ref s.heap.objs.size,_,I1,rfl,⟨s.heap.objs.size,I.hok.fresh (Nat.le_refl _),rfl,λxs' x' qa' hx'=>?_⟩,⟨⟨_,z1'⟩,z2.at λo e=>kT _ o (Ne.symm hne) e⟩,λc hc=>?_⟩
   . rw[I.list_inj qa' qa,hx]at hx'
     cases hx'
     rfl
   . have h0:=(hf c hc).1
     by_cases ec:c=s.heap.objs.size
     . subst ec
       obtain⟨o1,e1,_⟩:=h1
       simp only[List.mem_cons,List.mem_nil_iff,or_false]at hc
       rcases hc with e | e
       . exact absurd e (nT _ _ he)
       . exact absurd e (nT _ _ e1)
     . rw[qh ec];exact h0
 done:=by
   intro X hP hw hK hc i pins s σ H E I hf st hg
   subst hP hw hK
   obtain⟨⟨old,he⟩,h1⟩:=st
   obtain⟨xs,qa,hl⟩:=hg
   obtain⟨its,rv,p,_⟩:=I.list qa
   have l1:=rv.length
   exact wpAny_pyNext_enum_end (I.ok.hd hc) he h1 p.isList (by simp;omega) λh' kk=>⟨rfl,I.turnedL (L:=[e,it]) (t':=s.toks) (λc o hc e=>kk c o (λz=>hc (by simp [z])) e) hf⟩
 self:=λ_ _ _ _ _ st h=>let ⟨⟨_,he⟩,_⟩:=st;wpAny_pyIter_enum he h
section
variable {X:Cx} {elts:List Expr} {x1:Nat} {tpos:Pos}
def Mm (K:PySem.W.Frag) (ta:TA):TI:=λσ H R=>ta σ H λvs H1=>∃a,vs=[.ref a]/\(∃xs,SqL K H1 a xs)/\R (Mx K a) H1
theorem vt {a:Expr} {ta:TA} {p pos:Pos} (hg:Gl X "enumerate") (hm:X.mg "enumerate"=none) (ha:JA X [a] ta) (hs:starEach [a] X.env=[(false,eval a X.env)]:=by rfl):JI X (.Tuple elts x1 tpos) (.Call (.Name "enumerate" p) [a] [] pos) (Mm X.K ta):=.of (by
 have ha:=ha.to
 intro pins s σ H R I h
 refine Call_ (Q4 I hg hm boot_enumerate (PyProof.Rows.callWith_type1 (q5 (ha pos pins s σ H _ I h) λus s1 ⟨vs,H1,I1,r1,q1⟩=>?_) (by rw[hs];rfl) rfl))
 obtain⟨l,e,⟨xs,qa⟩,q⟩:=q1
 subst e
 cases r1 with
 | cons r rr=>
   cases rr
   cases r
   obtain⟨its,rv,p,_⟩:=I1.list qa
   refine call_enumerate_list p.isList λh' z1 z2 z3 kk=>?_
   refine wpAny_pyIter_enum z1 ?_
   have I2:qx X pins σ H1 {s1 with heap:=h'}:=I1.kept (t':=s1.toks) kk
   have fr:∀c,s1.heap.objs.size<=c->Zt X pins H1 c:=λc hc=>I1.fpOk hc (I1.hok.fresh hc)
   refine⟨s1.heap.objs.size+1,[s1.heap.objs.size+1,s1.heap.objs.size],_,_,H1,rfl,I2,vY l (s1.heap.objs.size+1) s1.heap.objs.size (Nat.succ_ne_self _),⟨⟨_,z1⟩,z2⟩,λc hc=>?_,q⟩
   simp only[List.mem_cons,List.mem_nil_iff,or_false]at hc
   rcases hc with e | e<;>rw[e]<;>first | exact fr _ (Nat.le_add_right _ _) | exact fr _ (Nat.le_refl _))
end
theorem Vt {K:PySem.W.Frag} {a:Addr} {xs:List V} {g:TG} {tb:TS} {D:QS} {σ:St} {H:Hp} (Pv:Nat->St->Hp->Prop) (h0:Pv 0 σ H) (hl:∀i σ H,i<=xs.length->Pv i σ H->SqL K H a xs)
   (hs:∀i x σ H p,xs[i]?=some x->H p=none->Pv i σ H->g (.ref p) σ (upd H p (.tup [.int (i:Nat),x])) λσ2 H2=>tb {D with nx:=Pv (i+1),ct:=Pv (i+1),bk:=D.nx} σ2 H2) (hd:∀σ H,Pv xs.length σ H->D.nx σ H):
   ∃W:Nat->Nat->St->Hp->Prop,(∃m,W 0 m σ H)/\∀i m σ H,W i m σ H->
    ((Mx K a).stop i H/\D.nx σ H)\/((Mx K a).go i H/\∃N:St->Hp->Prop,(∀σ' H',N σ' H'->∃m',m' < m/\W (i+1) m' σ' H')/\∀x H',(Mx K a).yld i H x H'->g x σ H' λσ2 H2=>tb {D with nx:=N,ct:=N,bk:=D.nx} σ2 H2):=by
 refine⟨λi m σ H=>m=xs.length - i/\i<=xs.length/\Pv i σ H,⟨xs.length,by simp,Nat.zero_le _,h0⟩,?_⟩
 rintro i m σ H ⟨rfl,hi,p⟩
 have qa:=hl i σ H hi p
 by_cases hlt:i < xs.length
 . have ex:xs[i]?=some xs[i]:=List.getElem?_eq_getElem hlt
   refine .inr ⟨⟨xs,_,qa,ex⟩,Pv (i+1),λσ' H' p'=>⟨xs.length - (i+1),by omega,rfl,hlt,p'⟩,λx H' yl=>?_⟩
   obtain⟨pp,hp,rfl,e⟩:=yl
   rw[e xs _ qa ex]
   exact hs i _ σ H pp ex hp p
 . have e:i=xs.length:=by omega
   subst e
   exact .inl ⟨⟨xs,qa,Nat.le_refl _⟩,hd σ H p⟩
theorem JP (ns:List Nat):∀i,i<=ns.length->preSum (λj=>((ns.getD j 0:Nat):Int)) i=(((ns.take i).sum:Nat):Int)
 | 0,_=>by simp [preSum]
 | i+1,h=>by
   have hi:i < ns.length:=h
   show preSum _ i+_=_
   rw[JP ns i (Nat.le_of_lt hi),List.take_add_one,List.getElem?_eq_getElem hi,List.sum_append]
   simp [List.getD_eq_getElem?_getD,List.getElem?_eq_getElem hi]
theorem zk (ns:List Nat) (i:Nat):(ns.take i).sum<=ns.sum:=by
 have h:(ns.take i++ns.drop i).sum=ns.sum:=by rw[List.take_append_drop]
 rw[List.sum_append]at h
 omega
theorem Vr (ns:List Nat) (i:Nat):ns.getD i 0<=ns.sum:=by
 have h:=zk ns (i+1)
 rw[List.take_add_one,List.sum_append]at h
 rw[List.getD_eq_getElem?_getD]
 cases e:ns[i]? with
 | none=>exact Nat.zero_le _
 | some x=>
   rw[e]at h
   simp at h ⊢
   omega
section
variable {X:Cx}
theorem ze (hc:X.calm=true):Qs X (.builtin "sum") (λxs H Q=>∃(p:Addr) (ns:List Nat),xs=[.ref p]/\SqL X.K H p (ns.map λn=>V.int ((n:Nat):Int))/\ns.sum < 2^62/\Q (.int (ns.sum:Nat)) H):=by
 intro pins s σ H xs us Q I r h
 obtain⟨p,ns,rfl,hq,hs,q⟩:=h
 obtain⟨u,rfl,rx⟩:=Q7 r
 cases rx
 obtain⟨its,rv,pl,hz⟩:=I.list hq
 have hlt:p < s.heap.objs.size:=by
   obtain⟨o,n,e,_⟩:=pl
   exact Heap.lt_size e
 have hn:its.toArray.size=ns.length:=by
   have:=rv.length
   rw[List.length_map]at this
   simp only[List.size_toArray]
   omega
 have hh:X.A.in1.handled=none:=I.ok.hd hc
 refine call_sum_walk (wpAny_pyIter_list pl.isList ?_)
 refine⟨s.heap.objs.size,[s.heap.objs.size,p],[s.heap.objs.size],its.toArray.size,λi v=>its.toArray[i]?=some v,_,λj=>((ns.getD j 0:Nat):Int),rfl,Walks.list hh s.heap.objs.size p (Nat.ne_of_lt hlt) its.toArray,
   ⟨⟨_,Heap.get?_push_size _ rfl,rfl,rfl⟩,pl.isList.at λo e=>Heap.get?_push_of_some _ e⟩,?_,?_,?_,λh' tk t' hk=>?_⟩
 . intro b hb
   show b < (s.heap.push _).objs.size
   rw[Heap.size_push]
   simp only[List.mem_cons,List.mem_nil_iff,or_false]at hb
   rcases hb with e | e
   . rw[e];exact Nat.lt_succ_self _
   . rw[e];exact Nat.lt_succ_of_lt hlt
 . intro i v hP
   have hi:its[i]?=some v:=by simpa using hP
   cases e:ns[i]? with
   | none=>
     exfalso
     have h1:(ns.map λn=>V.int ((n:Nat):Int))[i]?=none:=by rw[List.getElem?_map,e];rfl
     rw[qD.none_of rv h1]at hi
     cases hi
   | some b=>
     have h1:(ns.map λn=>V.int ((n:Nat):Int))[i]?=some (V.int b):=by rw[List.getElem?_map,e];rfl
     obtain⟨u,hu,ru⟩:=rv.get h1
     rw[hi]at hu
     cases hu
     obtain⟨t,rfl⟩:=ru
     refine⟨t,?_⟩
     show Value.int b t=.int ((ns.getD i 0:Nat):Int) t
     rw[List.getD_eq_getElem?_getD,e]
     rfl
 . intro j hj
   rw[hn]at hj
   have h1:=Vr ns j
   have h2:=zk ns (j+1)
   have h3:=JP ns (j+1) hj
   refine⟨⟨?_,?_⟩,⟨?_,?_⟩⟩
   . show -(2^63)<=((ns.getD j 0:Nat):Int)
     omega
   . show ((ns.getD j 0:Nat):Int) < 2^63
     omega
   . rw[h3];omega
   . rw[h3];omega
 . rw[hn,JP ns _ (Nat.le_refl _),List.take_of_length_le (Nat.le_refl _)]
   refine⟨.int (ns.sum:Nat),H,?_,⟨_,rfl⟩,q⟩
   exact I.kept (h':=h') (t':=tk) λb o e=>hk b o (by
     intro z
     have z':b=s.heap.objs.size:=by simpa using z
     exact absurd (Heap.lt_size e) (by rw[z'];exact Nat.lt_irrefl _)) (Heap.get?_push_of_some _ e)
end
end L2
set_option Elab.async false
set_option linter.all false
set_option maxRecDepth 100000
set_option maxHeartbeats 4000000
namespace L2
open PySem PySem.Spec PyProof.Rows
section
variable {X:Cx} {pins:List (Addr×Obj)} {σ:St} {H:Hp} {s:Shared} {a b:Addr} {kvs more:List (qE×V)} {A:Around} {E:Value->Shared->Prop}
end
section
variable {X:Cx} {o e:Expr} {apos cpos:Pos} {td ty:TE}
end
theorem qao {us:List Value} (h:us.length=0):us=[]:=List.eq_nil_of_length_eq_zero h
theorem xU {us:List Value} {n:Nat} (h:us.length=n+1):∃a r,us=a::r/\r.length=n:=by
 cases us with
 | nil=>cases h
 | cons a r=>exact⟨a,r,rfl,Nat.succ.inj h⟩
theorem j8 {us:List Value} (h:us.length=1):∃a,us=[a]:=by
 obtain⟨a,r,rfl,h'⟩:=xU h
 exact⟨a,by rw[qao h']⟩
theorem JJ {us:List Value} (h:us.length=2):∃a b,us=[a,b]:=by
 obtain⟨a,r,rfl,h'⟩:=xU h
 obtain⟨b,rfl⟩:=j8 h'
 exact⟨a,b,rfl⟩
theorem kY {us:List Value} (h:us.length=3):∃a b c,us=[a,b,c]:=by
 obtain⟨a,r,rfl,h'⟩:=xU h
 obtain⟨b,c,rfl⟩:=JJ h'
 exact⟨a,b,c,rfl⟩
theorem xV {us:List Value} (h:us.length=4):∃a b c d,us=[a,b,c,d]:=by
 obtain⟨a,r,rfl,h'⟩:=xU h
 obtain⟨b,c,d,rfl⟩:=kY h'
 exact⟨a,b,c,d,rfl⟩
theorem qan {us:List Value} (h:us.length=5):∃a b c d e,us=[a,b,c,d,e]:=by
 obtain⟨a,r,rfl,h'⟩:=xU h
 obtain⟨b,c,d,e,rfl⟩:=xV h'
 exact⟨a,b,c,d,e,rfl⟩
end L2
set_option Elab.async false
set_option linter.all false
set_option maxRecDepth 100000
set_option maxHeartbeats 4000000
namespace L2
open PySem PySem.Spec PyProof.Rows
abbrev Cx.suite (X:Cx) (a:Value) (E:Value->Shared->Prop):Cx:={X with A:=X.A.mark (some a),calm:=false,xe:=E}
abbrev Cx.tried (X:Cx) (pn:List (Addr×Obj)) (E:Value->Shared->Prop):Cx:={X with xe:=E,pn:=pn}
section
variable {X:Cx} {pins:List (Addr×Obj)} {σ:St} {H:Hp} {s:Shared} {E:Value->Shared->Prop} {a:Value}
theorem Cx.Ok.suite (o:X.Ok) (a:Value) (E:Value->Shared->Prop):(X.suite a E).Ok:=⟨o.mod,o.kind,o.glob,o.blt,o.above,o.inj,o.has,o.cab,λz=>Bool.noConfusion z,o.frames,o.stk,o.exf,o.bs,o.bsz,o.noex,o.exfs,o.funs,o.frf⟩
theorem Cx.Ok.tried (o:X.Ok) (pn:List (Addr×Obj)) (E:Value->Shared->Prop):(X.tried pn E).Ok:=⟨o.mod,o.kind,o.glob,o.blt,o.above,o.inj,o.has,o.cab,o.hd,o.frames,o.stk,o.exf,o.bs,o.bsz,o.noex,o.exfs,o.funs,o.frf⟩
theorem qx.suite (I:qx X pins σ H s) (a:Value) (E:Value->Shared->Prop):qx (X.suite a E) pins σ H s:=⟨I.ok.suite a E,I.os,I.bare,I.base,I.loc,I.cell,I.free,I.freeC,I.pin,I.hok,I.len⟩
theorem qx.unsuite {σ0:St} {H0:Hp} {s0:Shared} (I0:qx X pins σ0 H0 s0) (I:qx (X.suite a E) pins σ H s):qx X pins σ H s:=⟨I0.ok,I.os,I.bare,I.base,I.loc,I.cell,I.free,I.freeC,I.pin,I.hok,I.len⟩
theorem qx.tried (I:qx X pins σ H s) (E:Value->Shared->Prop):qx (X.tried (X.pn++pins) E) [] σ H s:=⟨I.ok.tried _ E,I.os,I.bare,I.base,I.loc,I.cell,I.free,I.freeC,λp hp=>I.pin p (by simpa using hp),I.hok,I.len⟩
theorem qx.untried {pins':List (Addr×Obj)} {σ0:St} {H0:Hp} {s0:Shared} (I0:qx X pins σ0 H0 s0) (I:qx (X.tried (X.pn++pins) E) pins' σ H s):qx X pins σ H s:=⟨I0.ok,I.os,I.bare,I.base,I.loc,I.cell,I.free,I.freeC,λp hp=>I.pin p (List.mem_append_left _ hp),I.hok,I.len⟩
theorem zW {M:Model} {A:Around} {F:Value->Shared->Prop} {i:Nat} {x:Str} {pos:Pos} {Q:Unit->Shared->Prop} (I:qx X pins σ H s) (hN:X.N.Nodup) (hi:X.N[i]?=some x) (hk:X.env.scope.names.lookup x=some .local)
   (h:∀s',qx X pins (σ.set i none) H s'->Q () s'):wpAny M A (do bindName X.env x .none;unbindBehindTheSuite X.env x pos) Q F s:=by
 obtain⟨m,hn,hl⟩:=id I.loc
 have hcls:(X.env.scope.kind==.class || (X.env.scope.kind==.module&&X.env.locals != X.env.globals))=false:=by rw[I.ok.kind];rfl
 have hiσ:i < σ.length:=by rw[I.len];exact(List.getElem?_eq_some_iff.mp hi).1
 have cne:=I.cne
 have tracked:∀{a:Addr} {h':Heap},(∃o,s.heap.get? a=some o/\H a=none)->Heap.SameBut a s.heap h'->Jk X.prog X.w H h':=λ{a h'} ha hs b ob e=>by
   obtain⟨_,_,hfree⟩:=ha
   refine(I.hok b ob e).stay (λc w' hc q=>(hs.2 c ?_).trans q) (λ_ q=>q) λ_ _ q=>q
   rintro rfl
   rcases hc with rfl | hc
   . rw[hfree]at e;cases e
   . rw[hfree]at hc;cases hc
 refine wpAny_nameGoes_keeps hk hn hcls λh' v0 hn' hs=>?_
 obtain⟨oL,_,_,hoL,_⟩:=id hn
 refine h _ ⟨I.ok,I.os,I.bare,⟨λb o e n hb hx=>?_,λb o e n hb hx=>?_,I.base.free,λb o e hx=>?_,I.base.tups,I.base.frzs,I.base.tbls⟩,⟨_,hn',λj y v' e1 e2 e3=>?_⟩,λy c e=>?_,I.free,I.freeC,λp hp=>?_,tracked ⟨oL,hoL,I.free⟩ hs,by simpa using I.len⟩
 . exact(hs.2 b (Nat.ne_of_lt (Nat.lt_of_lt_of_le (Heap.lt_size e) I.ok.above))).trans (I.base.keep b o e n hb hx)
 . obtain⟨sl,e1⟩:=I.base.slot b o e n hb hx
   exact⟨sl,(hs.2 b (Nat.ne_of_lt (Nat.lt_of_lt_of_le (Heap.lt_size e) I.ok.above))).trans e1⟩
 . obtain⟨o',e1⟩:=I.base.there b o e hx
   exact⟨o',(hs.2 b (Nat.ne_of_lt (Nat.lt_of_lt_of_le (Heap.lt_size e) I.ok.above))).trans e1⟩
 . by_cases hj:j=i
   . subst hj
     rw[List.getElem?_set_self hiσ]at e2
     cases e2
   . rw[List.getElem?_set_ne (Ne.symm hj)]at e2
     obtain⟨u',r',q⟩:=hl j y v' e1 e2 e3
     refine⟨u',r',?_⟩
     rcases q with ⟨k,e⟩ | ⟨k,c,e,z⟩
     . refine .inl ⟨k,?_⟩
       have:y≠x:=λe=>hj (YA hN e1 (e▸hi))
       simp [this,e]
     . exact .inr ⟨k,c,e,z.sameBut hs (cne y c e)⟩
 . obtain⟨w',z⟩:=I.cell y c e
   exact⟨w',z.sameBut hs (cne y c e)⟩
 . obtain⟨e,n,ne,nf,d⟩:=I.pin p hp
   exact⟨(hs.2 p.1 ne).trans e,n,ne,nf,d⟩
end
abbrev TH:=Addr->Addr->Addr->TS
def PH (X:Cx) (hs:List ExceptHandler) (t:TH):Prop:=
 ∀(pins:List (Addr×Obj)) (s:Shared) (σ:St) (H:Hp) (D:QS) (a C dx T:Addr),qx X pins σ H s->H a=some (Q5 a C dx (.ref T))->H T=some (w6 T .none)->t C a dx D σ H->
   wpAny (model X.prog X.w) X.A (handleBy (.ref a) X.env hs) (SP X pins D) X.xe s
def wB:TH:=λ_ _ _ _ _ _=>False
theorem kP {X:Cx} {hs:List ExceptHandler}:PH X hs wB:=λ_ _ _ _ _ _ _ _ _ _ _ _ h=>h.elim
def QS.gone (D:QS) (j:Nat):QS:={nx:=λσ H=>D.nx (σ.set j none) H,rt:=D.rt,bk:=λσ H=>D.bk (σ.set j none) H,ct:=λσ H=>D.ct (σ.set j none) H}
def UL (K:PySem.W.Frag) (Cl:Addr) (j:Nat) (ts:TS) (tr:TH):TH:=λC a dx D σ H=>∃f bm,Mz K C f bm/\
 if (Value.ref C::bm).contains (.ref Cl)=true then ts (D.gone j) (σ.set j (some (.ref a))) H else tr C a dx D σ H
def K6 (K:PySem.W.Frag) (C:Addr):Prop:=∃bm,(∃nm q N bs hdct sn sub ab col dd k0 k1 k2 k3 k5,K.lookup C=some (excClassObj nm q C N bs bm hdct sn sub ab col dd k0 k1 k2 k3 k5 "ValueError.__new__"))/\bm.contains (.type "BaseException")=true
theorem Um {X:Cx} {x n:Str} {p pos:Pos} {j:Nat} {b₀:Stmt} {suite:List Stmt} {rest:List ExceptHandler} {ts:TS} {tr:TH} {Cl:Addr} (hg:Gl X x) (hm:X.mg x=some (.ref Cl)) (hD:K6 X.K Cl) (hN:X.N.Nodup) (hj:X.N[j]?=some n)
   (hl:X.env.scope.names.lookup n=some .local) (hs:∀v E,ub (X.suite v E) (b₀::suite) ts) (hr:PH X rest tr) (hdb:(x==("__debug__":Str))=false:=by decide):PH X (.ExceptHandler (some (.Name x p)) (some n) (b₀::suite) pos::rest) (UL X.K Cl j ts tr):=by
 intro pins s σ H D a C dx T I ha hT h
 obtain⟨f,bm,em,h⟩:=h
 obtain⟨bm',em',hB⟩:=hD
 refine wpAny_handleBy_cons (codeAny_handlers_test ?_) (by intro q;cases q)
 refine wpAny_mono (ve (X:=X.suite (.ref a) _) (v:=.ref Cl) hg hm rfl hdb pins s σ H (λv H'=>v=.ref Cl/\H'=H) (I.suite _ _) ⟨rfl,rfl⟩) (λc s₁ q=>?_) (λ_ _ z=>z)
 obtain⟨v,H',I1,rv,rfl,rfl⟩:=q
 obtain rfl:c=Value.ref Cl:=rv
 have I2:qx X pins σ H' s₁:=I.unsuite I1
 obtain⟨nm,q,N,bs,hdct,sn,sub,ab,col,dd,k0,k1,k2,k3,k5,hC⟩:=em.obj
 obtain⟨nm',q',N',bs',hdct',sn',sub',ab',col',dd',k0',k1',k2',k3',k5',hC'⟩:=em'
 obtain⟨⟨fl,he,hz⟩,_,_⟩:=(show qG X.prog X.w H' s₁.heap a (Q5 a C dx (.ref T)) from I2.hok a _ ha)
 obtain⟨st,_,_⟩:=(show qG X.prog X.w H' s₁.heap T (w6 T .none) from I2.hok T _ hT)
 have gC:=I2.kIn _ _ hC
 have gD:=I2.kIn _ _ hC'
 obtain⟨hp,g,d,tk,os⟩:=s₁
 refine yk (bC:=Value.ref C::bm) (bD:=Value.ref Cl::bm') he rfl gC gD (λT Q k=>wpAny_isSubtype_exc gC k) (λT Q k=>wpAny_isSubtype_exc gD k) (by rw[List.contains_cons,hB,Bool.or_true]) ?_
 cases hb:(Value.ref C::bm).contains (.ref Cl) with
 | false=>
   rw[hb,if_neg Bool.false_ne_true]at h
   exact hr pins _ σ H' D a C dx T I2 ha hT h
 | true=>
   rw[hb,if_pos rfl]at h
   refine(show codeAny _ _ _ _ _ from codeAny_handlers_suite_as ?_)
   refine Jt (fs:=zD X.stack) he hz st λh' F st'=>?_
   have I3:qx X pins σ H' {heap:=h',gens:=g,drawn:=d,toks:=tk,os:=os}:=I2.flown (H':=H') F ⟨λb hb'=>by cases List.mem_singleton.mp hb';exact⟨_,hT⟩,λb o _ z=>z,λb _ z=>z⟩ (λb hb'=>by cases List.mem_singleton.mp hb';obtain⟨ts',z,_⟩:=st';exact⟨_,z⟩) λb o z hb'=>by
     rcases hb' with hb' | hb'
     . rw[z]at hb';cases hb'
     . cases List.mem_singleton.mp hb'
       rw[hT]at z
       cases z
       exact XM st'
   refine Zx I3 hN hj (.inl hl) (v:=.ref a) rfl (λs' I4=>?_) (.inr hl)
   refine wpAny_mono (hs (.ref a) _ pins s' _ H' (D.gone j) (I4.suite _ _) h) (λfl s3 q=>?_) (λ_ _ z=>z)
   cases fl with
   | next=>
     obtain⟨σ3,H3,I5,q⟩:=q
     exact zW (I.unsuite I5) hN hj hl λs4 I6=>⟨_,_,I6,q⟩
   | brk=>
     obtain⟨σ3,H3,I5,q⟩:=q
     exact zW (I.unsuite I5) hN hj hl λs4 I6=>⟨_,_,I6,q⟩
   | cont=>
     obtain⟨σ3,H3,I5,q⟩:=q
     exact zW (I.unsuite I5) hN hj hl λs4 I6=>⟨_,_,I6,q⟩
   | ret u=>
     obtain⟨v,σ3,H3,I5,r,q⟩:=q
     exact zW (I.unsuite I5) hN hj hl λs4 I6=>⟨v,_,_,I6,r,q⟩
def NU (tb:(St->XK)->TS) (th:TH):TS:=λD σ H=>∃R:Addr->Addr->Hp->Prop,tb (λσ' c d Hx=>σ'=σ/\∃C dx,c=.ref C/\d=some dx/\R C dx Hx) D σ H/\
 ∀(a C dx T:Addr) (Hx H':Hp),R C dx Hx->Hx a=some (Ze a C dx)->(∀b o,b≠a->Hx b=some o->H' b=some o)->H' a=some (Q5 a C dx (.ref T))->th C a dx D σ H'
theorem uk {X:Cx} {body:List Stmt} {h0:ExceptHandler} {hs:List ExceptHandler} {tb:(St->XK)->TS} {th:TH} {pos:Pos} (hst:X.stack=X.env::X.outer) (hfm:X.env.frame=some X.env.locals)
   (hb:∀(pn:List (Addr×Obj)) (W:Value->Shared->Prop) (E:St->XK),z6 (XD X.prog X.w) (X.tried pn W) E->ub (X.tried pn W) body (tb E)) (hh:PH X (h0::hs) th):PS X (.Try body (h0::hs) [] [] pos) (NU tb th):=by
 intro pins s σ H D I h
 obtain⟨R,hbd,hx⟩:=h
 refine wpAny_Try_except ?_
 refine wpAny_mono (hb (X.pn++pins) (λe s₁=>wpAny (model X.prog X.w) X.A (noteFrame e X.env) (λ_ s₂=>wpAny (model X.prog X.w) X.A (setFlight e none) (λ_ s₃=>wpAny (model X.prog X.w) X.A (handleBy e X.env (h0::hs)) (SP X pins D) X.xe s₃) X.xe s₂) X.xe s₁) _ ?_ [] s σ H D (I.tried _) hbd) (λf s1 q=>?_) (λ_ _ z=>z)
 . intro pins' σ' H1 s1 e s' I1 hc
   obtain⟨a,C,dx,T,Hx,H2,rfl,os,bare,un,hok,ha,ht,hxT,hxa,hxs,rfl,C',dx',eC,eD,hR⟩:=hc
   cases eC
   cases eD
   have I2:qx X pins σ' H2 s':=I.untried (I1.call' os un hok bare λb z=>absurd z (by simp))
   obtain⟨⟨fl,he,hz⟩,_,_⟩:=(show qG X.prog X.w H2 s'.heap a (Q5 a C dx (.ref T)) from I2.hok a _ ha)
   obtain⟨st0,_,_⟩:=(show qG X.prog X.w H2 s'.heap T (w6 T .none) from I2.hok T _ ht)
   have nT0:T≠a:=λz=>by
     obtain⟨ts,q,_⟩:=st0
     rw[z,he]at q
     cases q
   have fr:=I2.ok.frames
   have ff:=I2.stack
   rw[hst]at fr ff
   refine vn fr ff hfm he hz st0 nT0 λh1 T' hT F tT q1 q2=>?_
   have lt:=(Array.getElem?_eq_some_iff.mp hz).1
   have g1:(fl.setIfInBounds 1 (Value.ref T'))[1]?=some (.ref T'):=by simp [lt]
   have nT:T'≠a:=λz=>by
     obtain⟨ts,q,_⟩:=q2
     rw[z,q1]at q
     cases q
   refine Jt (fs:=zD X.stack) q1 g1 q2 λh2 F2 stt=>?_
   have anf:∀b o,H2 b=some o->b∉zD X.stack:=λb o q z=>by
     have:=I2.stkFree b z
     rw[q]at this
     cases this
   have hTn:H2 T'=none:=I2.hok.fresh hT
   have nTT:T'≠T:=(qo ht hTn).symm
   have q3:=F2.keep a _ (anf a _ ha) (by simp [Ne.symm nT]) q1
   obtain⟨oT,hoT⟩:=tT
   have q4:=F2.keep T _ (anf T _ ht) (by simp [Ne.symm nTT]) hoT
   rw[<-hst]at F
   have I3:=I2.flown (H':=upd (upd (upd H2 a (Q5 a C dx (.ref T'))) T (.ext λh=>∃o,h.get? T=some o)) T' (w6 T' .none)) (vS.then F F2 hT) ⟨λb hb=>by
       simp only[List.mem_cons,List.not_mem_nil,or_false]at hb
       rcases hb with rfl | rfl
       . exact⟨_,ha⟩
       . exact⟨_,ht⟩,λb o hb q=>by
       simp only[List.mem_cons,List.not_mem_nil,or_false,not_or]at hb
       rw[qh (qo q hTn),qh hb.2,qh hb.1];exact q,λb hb q=>by
       rw[qh (Nat.ne_of_lt (Nat.lt_of_lt_of_le hb hT)),qh (λz=>by rw[z,ht]at q;cases q),qh (λz=>by rw[z,ha]at q;cases q)];exact q⟩ (λb hb=>by
       simp only[List.mem_cons,List.not_mem_nil,or_false]at hb
       rcases hb with rfl | rfl
       . exact⟨_,q3⟩
       . exact⟨_,q4⟩) λb o q hb=>by
     by_cases e1:b=T'
     . subst e1
       rw[qd]at q
       cases q
       exact XM stt
     . rw[qh e1]at q
       by_cases e2:b=T
       . subst e2
         rw[qd]at q
         cases q
         exact⟨⟨_,q4⟩,⟨_,q4⟩,λh1 h2 ⟨u,z⟩ k=>⟨u,k u z⟩⟩
       . rw[qh e2]at q
         by_cases e3:b=a
         . subst e3
           rw[qd]at q
           cases q
           exact zZ ⟨_,q3,g1⟩
         . rw[qh e3]at q
           rcases hb with hb | hb
           . rw[q]at hb;cases hb
           . simp only[List.mem_cons,List.not_mem_nil,or_false]at hb
             exact(hb.elim e3 e2).elim
   have ea:upd (upd (upd H2 a (Q5 a C dx (.ref T'))) T (.ext λh=>∃o,h.get? T=some o)) T' (w6 T' .none) a=some (Q5 a C dx (.ref T')):=by rw[qh (Ne.symm nT),qh (Ne.symm nT0),qd]
   refine hh pins _ σ' _ D a C dx T' I3 ea qd (hx a C dx T' Hx _ hR hxa (λb o nb q=>?_) ea)
   have n1:b≠T:=λz=>by rw[z,hxT]at q;cases q
   have q':=hxs b o nb q
   rw[qh (qo q' hTn),qh n1,qh nb]
   exact q'
 . cases f with
   | next=>
     obtain⟨σ',H',I',q⟩:=q
     exact wpAny_execs_nil ⟨σ',H',I.untried I',q⟩
   | brk=>
     obtain⟨σ',H',I',q⟩:=q
     exact⟨σ',H',I.untried I',q⟩
   | cont=>
     obtain⟨σ',H',I',q⟩:=q
     exact⟨σ',H',I.untried I',q⟩
   | ret u=>
     obtain⟨v,σ',H',I',r,q⟩:=q
     exact⟨v,σ',H',I.untried I',r,q⟩
@[irreducible] def JH (X:Cx) (hs:List ExceptHandler) (t:TH):Prop:=PH X hs t
theorem JH.of {X:Cx} {hs:List ExceptHandler} {t:TH} (h:PH X hs t):JH X hs t:=by unfold JH;exact h
theorem JH.to {X:Cx} {hs:List ExceptHandler} {t:TH} (h:JH X hs t):PH X hs t:=by unfold JH at h;exact h
theorem x9 {X:Cx} {hs:List ExceptHandler}:JH X hs wB:=.of kP
theorem wa {X:Cx} {x n:Str} {p pos:Pos} {j:Nat} {b₀:Stmt} {suite:List Stmt} {rest:List ExceptHandler} {ts:TS} {tr:TH} {Cl:Addr} (hg:Gl X x) (hm:X.mg x=some (.ref Cl)) (hD:K6 X.K Cl) (hN:X.N.Nodup) (hj:X.N[j]?=some n)
   (hl:X.env.scope.names.lookup n=some .local) (hs:∀v E,WJ (X.suite v E) (b₀::suite) ts) (hr:JH X rest tr) (hdb:(x==("__debug__":Str))=false:=by decide):JH X (.ExceptHandler (some (.Name x p)) (some n) (b₀::suite) pos::rest) (UL X.K Cl j ts tr):=
 .of (Um hg hm hD hN hj hl (λv E=>(hs v E).to) hr.to hdb)
theorem RQ {X:Cx} {body:List Stmt} {h0:ExceptHandler} {hs:List ExceptHandler} {tb:(St->XK)->TS} {th:TH} {pos:Pos} (hst:X.stack=X.env::X.outer) (hfm:X.env.frame=some X.env.locals)
   (hb:∀(pn:List (Addr×Obj)) (W:Value->Shared->Prop) (E:St->XK),z6 (XD X.prog X.w) (X.tried pn W) E->WJ (X.tried pn W) body (tb E)) (hh:JH X (h0::hs) th):JS X (.Try body (h0::hs) [] [] pos) (NU tb th):=
 .of (uk hst hfm (λpn W E h=>(hb pn W E h).to) hh.to)
def NG (K:PySem.W.Frag) (bm:List Value) (ta:TE) (f:Str):TE:=λσ H Q=>ta σ H λx H1=>∃a C dx hd fs v,x=.ref a/\H1 a=some (Q5 a C dx hd)/\H1 dx=some (.xd fs)/\zG K C bm/\jF K C f/\fs.lookup f=some v/\Q v H1
def Rr (K:PySem.W.Frag) (bm:List Value):List V->Hp->VK->Prop:=λxs H Q=>∃a C dx hd fs c b,xs=[.ref a,c]/\Gv c=true/\H a=some (Q5 a C dx hd)/\H dx=some (.xd fs)/\zG K C bm/\PySem.W.kitOne K (.ref C) (KR c)=some b/\Q (.bl b) H
section
variable {X:Cx} {f:Str} {e:Expr} {pos:Pos} {ta:TE} {bm:List Value}
theorem vw (he:JE X e ta) (hb:attributeBase e f X.env (eval e X.env)=eval e X.env):JE X (.Attribute e f pos) (NG X.K bm ta f):=.of (by
 have he:=he.to
 intro pins s σ H Q I h
 refine vL hb (q5 (he pins s σ H _ I h) λu s1 z=>?_)
 obtain⟨x,H1,I1,rx,a,C,dx,hd,fs,v,ex,ea,ed,c,n,l,q⟩:=z
 subst ex
 obtain rfl:u=Value.ref a:=rx
 exact yh I1 ea ed c n l λu' s2 I2 ru=>⟨v,H1,I2,ru,q⟩)
theorem VB (hn:PySem.W.specialIn X.K (.builtin "object.__class__") "__get__"=some (some (.builtin "getset_descriptor.__get__"))) (htk:PySem.W.takesIn X.K (.builtin "object.__class__")=some true):Qs X (.builtin "isinstance") (Rr X.K bm):=by
 intro pins s σ H xs us Q I r h
 obtain⟨a,C,dx,hd,fs,c,b,rfl,hc,ha,hdx,ec,ek,q⟩:=h
 obtain⟨u,w',rfl,ru,rw'⟩:=UD r
 have ew:w'=KR c:=by
   cases c with
   | ty n=>exact rw'
   | ref z=>exact rw'
   | _=>cases hc
 subst ew
 cases ru
 exact wu I ha hdx ec hn htk ek λtk=>⟨.bl b,H,I.tok tk,rfl,q⟩
theorem qm.cx {P:Program} {w:World} {K:PySem.W.Frag} {mg:Str->Option Value} {base:Heap} {CX:XB} {k:Nat} {f:Addr} {fd:FuncData} {ps:List Str} {sp:Sp} (F:qm P w K mg base qO k f fd ps sp):qm P w K mg base CX k f fd ps sp:=
 ⟨F.len,λA outer s H args us vs Q E hr he hb hv hs=>codeAny_mono (F.run A outer s H args us vs Q E hr he hb hv hs) λr s' q=>by
   match r,q with
   | .ok (.ret u),q=>exact q
   | .ok .next,q=>exact q
   | .ok .brk,q=>exact q
   | .ok .cont,q=>exact q
   | .error e,q=>exact q.elim⟩
end
end L2
set_option Elab.async false
set_option linter.all false
set_option maxRecDepth 100000
set_option maxHeartbeats 4000000
namespace PySem
open PySem.Spec
namespace F
theorem plain_dupd_loop:plainId "dict.update.loop"=true:=by decide+kernel
theorem entry_dupd_loop:entryFor table "dict.update.loop"=some Builtin.«dict.update.loop»:=entryFor_of_fast (by kernel_rfl)
end F
theorem Heap.DictOf.keepsAt {prog:Program} {w:World} {κ:Type} [DecidableEq κ] {knd:KeyKind prog w κ} {h h':Heap} {a:Addr} {kvs:List (κ×Value)} (hm:h.DictOf knd a kvs) (k:∀o,h.get? a=some o->h'.get? a=some o):h'.DictOf knd a kvs:=
 let ⟨o,es,ep,ho,r⟩:=hm;⟨o,es,ep,k o ho,r⟩
section
variable {prog:Program} {w:World} {A:Around} {R:Result->Shared->Prop} {I:Addr} {fp wr:List Addr} {n:Nat} {P:Nat->Value->Prop} {St:Nat->Heap->Prop} {κ:Type} [DecidableEq κ] {knd:KeyKind prog w κ}
def Nl (knd:KeyKind prog w κ) (h:Heap) (wr:List Addr) (d:Addr) (v:Value) (kv:κ×Value):Prop:=∃p o c k,v=.ref p/\h.get? p=some o/\o.cls=.type "tuple"/\o.data=.seq #[k,kv.2] c/\knd.is kv.1 k=true/\p∉wr/\p≠d
theorem ZR (W:Walks prog w A.in1 I fp wr n P St) (kv:Nat->κ×Value) (d:Addr) (hdf:d∉fp) (hn:n<=1000):
   ∀(k i:Nat) (s:Shared) (t:Tok) (kvs:List (κ×Value)),n - i=k->i<=n->St i s.heap->s.heap.DictOf knd d kvs->kvs.length<=i->(∀j v,P j v->Nl knd s.heap wr d v (kv j))->
   (∀h' tk,h'.DictOf knd d (merged kvs (((List.range n).drop i).map kv))->(∀b o,b∉wr->b≠d->s.heap.get? b=some o->h'.get? b=some o)->R (.ok (.ret .none)) {s with heap:=h',toks:=tk})->
   codeAny (model prog w) A (.builtin "dict.update.loop" ⟨[.ref d,.ref I,.int i t,.none],[]⟩) R s:=by
 have hdw:d∉wr:=λh=>hdf (W.sub _ h)
 intro k
 induction k with
 | zero=>
   intro i s t kvs hk hi hst hd hl hp hR
   have hin:i=n:=by omega
   subst hin
   refine codeAny_builtin F.entry_dupd_loop ?_
   rw[Around.under_plainId F.plain_dupd_loop _]
   show wpAny _ A.in1 (pyNext (.ref I) >>= _) _ _ s
   refine wpAny_bind (W.done s _ _ hst λh' tk hk'=>?_)
   show wpAny _ A.in1 (Builtin.Dict.addKeywords d [] >>= _) _ _ _
   refine wpAny_bind (wpAny_pure (wpAny_pure (hR h' tk ?_ λb o hb _ e=>hk' b o hb e)))
   rw[List.drop_of_length_le (by simp)]
   exact hd.keepsAt λo e=>hk' d o hdw e
 | succ k ih=>
   intro i s t kvs hk hi hst hd hl hp hR
   have hlt:i < n:=by omega
   refine codeAny_builtin F.entry_dupd_loop ?_
   rw[Around.under_plainId F.plain_dupd_loop _]
   show wpAny _ A.in1 (pyNext (.ref I) >>= _) _ _ s
   refine wpAny_bind (W.item i s _ _ hlt hst λv h' tk hP hst' hk'=>?_)
   obtain⟨p,o,c,key,rfl,ho,hc,hdat,hkey,hpw,hpd⟩:=hp i v hP
   have ho':=hk' p o hpw ho
   have hd':h'.DictOf knd d kvs:=hd.keepsAt λo e=>hk' d o hdw e
   have ty:(⟨h',s.gens,s.drawn,tk,s.os⟩:Shared).TypeIs (.ref p) "tuple":=⟨o,ho',hc⟩
   refine wpAny_bind (wpAny_holding (wpAny_bind (wpAny_tryCatch ?_)))
   unfold Builtin.Dict.pairItems
   refine wpAny_bind (wpAny_typeOf ty ?_)
   rw[if_pos (by decide)]
   refine wpAny_bind (wpAny_seqItems ho' hdat (wpAny_pure ?_))
   refine(show wpAny _ _ (holding [key,(kv i).2] (dictSet d key (kv i).2)) _ _ _ from wpAny_holding (wpAny_dictSet_pairs hkey hd' (λh'' dd hs=>?_) (by rw[sizeLine_eq];omega)))
   refine wpAny_pure ⟨plainId_quiet F.plain_dupd_loop _,?_⟩
   have keep:∀b o,b∉wr->b≠d->s.heap.get? b=some o->h''.get? b=some o:=λb o hb hbd e=>(hs.2 b hbd).trans (hk' b o hb e)
   have len:(stored kvs (kv i).1 (kv i).2).length<=i+1:=by
     have:=stored_length_le kvs (kv i).1 (kv i).2
     omega
   refine ih (i+1) _ _ (stored kvs (kv i).1 (kv i).2) (by omega) hlt (W.frame _ _ _ hst' λb hb o e=>(hs.2 b (λz=>hdf (z▸hb))).trans e) dd len (λj v hj=>?_) λh3 tk3 d3 k3=>?_
   . obtain⟨p,o,c,k,e1,e2,r⟩:=hp j v hj
     exact⟨p,o,c,k,e1,keep p o r.2.2.2.1 r.2.2.2.2 e2,r⟩
   . refine hR h3 tk3 ?_ λb o hb hbd e=>k3 b o hb hbd (keep b o hb hbd e)
     have e:(List.range n).drop i=i::(List.range n).drop (i+1):=by
       rw[List.drop_eq_getElem_cons (by simpa using hlt)]
       simp
     rw[e]
     exact d3
end
section
variable {prog:Program} {w:World} {A:Around} {E:Value->Shared->Prop} {s:Shared} {κ:Type} [DecidableEq κ] {knd:KeyKind prog w κ}
theorem Wr:typeLookup (.type "list") "keys"=pure none:=by rw[typeLookup_type,builtinLookup_eq_fast];kernel_rfl
theorem Wt {a:Addr} {o:Obj} {xs:Array Value} {k:Nat} {Q:Option Value->Shared->Prop} (hx:s.heap.get? a=some o) (hc:o.cls=.type "list") (hdat:o.data=.seq xs k) (hd:o.dict=none) (hA:A.handled=none)
   (h:∀h' tk,(∀b o,s.heap.get? b=some o->h'.get? b=some o)->Q none {s with heap:=h',toks:=tk}):wpAny (model prog w) A (getAttr? (.ref a) "keys") Q E s:=by
 obtain⟨c,dct,dat,sl⟩:=o
 simp only at hc hdat hd
 subst hc hdat hd
 obtain⟨hp,g,d,tk,os⟩:=s
 have hT:∀tk',(⟨hp,g,d,tk',os⟩:Shared).TypeIs (.ref a) "list":=λ_=>⟨_,hx,rfl⟩
 have f1:=sub_AttributeError
 have f3:=F.slot_list_getattribute.lookup
 have f4:=F.slot_list_getattribute.bind (.ref a)
 have f5:=am_list_getattr_none
 unfold getAttr? getAttrBy? getAttrBy
 repeat (any_goals (first | assumption | exact hT _ | ((with_reducible show wpAny _ _ (call (Value.builtin "list.__getattribute__") _ _) _ _ _);refine call_meets F.slot_list_getattribute (hT _) am_entry_list_getattribute (F.args_list_getattribute_2 _ _) (meets_getattribute_miss_list a xs k sl "keys" _ Wr (by decide+kernel)) ⟨hx,hA,λh' tk' e hx'=>?_⟩) | wp_step))
 obtain⟨t',u',he⟩:=hx'.there
 show wpAny _ _ (getattributeRaised _ _ _ _ _ _ _) _ _ _
 unfold getattributeRaised
 repeat (any_goals (first | assumption | wp_step))
 exact h _ _ hx'.of.keeps
theorem zE {src:Addr} {items:Array Value} {kv:Nat->κ×Value} {Q:Value->Shared->Prop} (pl:PlainL s.heap src items) (hp:∀j v,items[j]?=some v->∃p o c key,v=.ref p/\s.heap.get? p=some o/\o.cls=.type "tuple"/\o.data=.seq #[key,(kv j).2] c/\knd.is (kv j).1 key=true)
   (hn:items.size<=1000) (hA:A.handled=none)
   (h:∀h' tk,h'.DictOf knd s.heap.objs.size (merged [] ((List.range items.size).map kv))->(∀b o,s.heap.get? b=some o->h'.get? b=some o)->Q (.ref s.heap.objs.size) {s with heap:=h',toks:=tk}):
   wpAny (model prog w) A (call (.type "dict") [.ref src]) Q E s:=by
 refine callType_codes (Q₁:=λobj s₁=>obj=.ref s.heap.objs.size/\s₁={s with heap:=s.heap.push {cls:=.type "dict",data:=.dict #[]}}) F.kt_called_dict (F.kt_typeCall_dict_1 _) F.entry_dict_init (kt_code_dict_new _ ⟨rfl,rfl⟩) ?_
 rintro obj s₁ ⟨rfl,rfl⟩
 have hnew:(s.heap.push {cls:=.type "dict",data:=.dict #[]}).DictOf knd s.heap.objs.size []:=Heap.DictOf.new s.heap
 have hp0:∀b o,s.heap.get? b=some o->(s.heap.push {cls:=.type "dict",data:=.dict #[]}).get? b=some o:=λb o e=>Heap.get?_push_of_some _ e
 obtain⟨ol,nl,ho,hc,hd,hdat⟩:=id pl
 have ty:(⟨s.heap.push {cls:=.type "dict",data:=.dict #[]},s.gens,s.drawn,s.toks,s.os⟩:Shared).TypeIs (.ref src) "list":=⟨ol,hp0 _ _ ho,hc⟩
 refine⟨hnew.typeIs,F.args_dict_init_2 _ _,?_⟩
 unfold Builtin.«dict.__init__»
 refine wpAny_bind ?_
 unfold Builtin.Dict.selfAndRest
 refine wpAny_bind (wpAny_notOrdered_dict hnew.typeIs ?_)
 show wpAny _ _ (pure (s.heap.objs.size,[Value.ref src])) _ _ _
 refine wpAny_pure ?_
 show wpAny _ _ (Builtin.Dict.updateFrom "dict.__init__" s.heap.objs.size (.ref src) [] .none) _ _ _
 unfold Builtin.Dict.updateFrom
 refine wpAny_bind (wpAny_typeOf ty ?_)
 rw[if_pos (by decide)]
 refine wpAny_bind (Wt (hp0 _ _ ho) hc hdat hd hA λh1 tk1 k1=>?_)
 rw[if_pos (show (none:Option Value).isNone=true from rfl)]
 refine wpAny_bind (wpAny_rule ?_)
 have pl1:PlainL h1 src items:=⟨ol,nl,k1 _ _ (hp0 _ _ ho),hc,hd,hdat⟩
 have hlt:src < h1.objs.size:=Heap.lt_size (k1 _ _ (hp0 _ _ ho))
 have hnew1:h1.DictOf knd s.heap.objs.size []:=hnew.keepsAt λo e=>k1 _ o e
 have hld:s.heap.objs.size < h1.objs.size:=by
   obtain⟨o,_,_,e,_⟩:=hnew1
   exact Heap.lt_size e
 refine wpAny_bind (wpAny_pyIter_list pl1.isList ?_)
 refine wpAny_pure ⟨plainId_quiet F.plain_dupd_loop _,?_⟩
 have W:=Walks.list (prog:=prog) (w:=w) (A:=A.in1.in1) hA h1.objs.size src (Nat.ne_of_lt hlt) items
 have nsrc:s.heap.objs.size≠src:=Ne.symm (Nat.ne_of_lt (Heap.lt_size ho))
 refine ZR (A:=A.in1) W kv s.heap.objs.size (by simp only[List.mem_cons,List.mem_nil_iff,or_false,not_or];exact⟨Nat.ne_of_lt hld,nsrc⟩) hn items.size 0 _ _ [] (by omega) (Nat.zero_le _)
   ⟨⟨_,Heap.get?_push_size _ rfl,rfl,rfl⟩,pl1.isList.at λo e=>Heap.get?_push_of_some _ e⟩ (hnew1.push _) (Nat.zero_le _) (λj v hj=>?_) λh2 tk2 d2 k2=>⟨rfl,h h2 tk2 d2 λb o e=>?_⟩
 . obtain⟨p,o,c,key,e1,e2,e3,e4,e5⟩:=hp j v hj
   have e2':=k1 _ _ (hp0 _ _ e2)
   refine⟨p,o,c,key,e1,Heap.get?_push_of_some _ e2',e3,e4,e5,?_,Nat.ne_of_lt (Heap.lt_size e2)⟩
   simp only[List.mem_cons,List.mem_nil_iff,or_false]
   exact Nat.ne_of_lt (Heap.lt_size e2')
 . have e':=k1 _ _ (hp0 _ _ e)
   refine k2 b o ?_ (Nat.ne_of_lt (Heap.lt_size e)) (Heap.get?_push_of_some _ e')
   simp only[List.mem_cons,List.mem_nil_iff,or_false]
   exact Nat.ne_of_lt (Heap.lt_size e')
end
end PySem
namespace L2
open PySem PySem.Spec PyProof.Rows
section
variable {X:Cx} {pins:List (Addr×Obj)} {σ:St} {H:Hp} {s:Shared}
def xc (K:PySem.W.Frag):List V->Hp->VK->Prop:=λxs H Q=>∃(p:Addr) (ps:List Addr) (kvs:List (qE×V)),xs=[.ref p]/\SqL K H p (ps.map V.ref)/\ps.length=kvs.length/\(∀(i:Nat) (a:Addr) (kv:qE×V),ps[i]?=some a->kvs[i]?=some kv->SqT K H a [kV kv.1,kv.2])/\kvs.length<=1000/\
 ∀d,H d=none->Q (.ref d) (upd H d (.dK (Qu [] kvs)))
theorem Yw (I:qx X pins σ H s):∀(ps:List Addr) (kvs:List (qE×V)),ps.length=kvs.length->(∀(i:Nat) (a:Addr) (kv:qE×V),ps[i]?=some a->kvs[i]?=some kv->SqT X.K H a [kV kv.1,kv.2])->
   ∃rs:List (qE×Value),KV kvs rs/\rs.length=ps.length/\∀(i:Nat) (a:Addr),ps[i]?=some a->∃kv o c key,rs[i]?=some kv/\s.heap.get? a=some o/\o.cls=.type "tuple"/\o.data=.seq #[key,kv.2] c/\(qS X.prog X.w).is kv.1 key=true
 | [],[],_,_=>⟨[],.nil,rfl,λi a e=>by simp at e⟩
 | [],_::_,h,_=>by cases h
 | _::_,[],h,_=>by cases h
 | a::ps,kv::kvs,h,k=>by
   obtain⟨rs,r1,r2,r3⟩:=Yw I ps kvs (Nat.succ.inj h) λi a' kv' e1 e2=>k (i+1) a' kv' (by simpa using e1) (by simpa using e2)
   obtain⟨its,rv,⟨o,e,c1,n1,d1⟩,_⟩:=I.tuple (k 0 a kv rfl rfl)
   cases rv with
   | cons ra rt=>
     cases rt with
     | cons rb rn=>
       cases rn
       rename_i u1 u2
       refine⟨(kv.1,u2)::rs,.cons ⟨rfl,rb⟩ r1,by simp [r2],λi a' e'=>?_⟩
       cases i with
       | zero=>
         cases e'
         exact⟨_,o,n1,u1,rfl,e,c1,d1,zt ra⟩
       | succ i=>exact r3 i a' (by simpa using e')
theorem Up (hc:X.calm=true):Qs X (.type "dict") (xc X.K):=by
 intro pins s σ H xs us Q I r h
 obtain⟨p,ps,kvs,rfl,hl,le,hps,hz,q⟩:=h
 obtain⟨u,rfl,ru⟩:=Q7 r
 cases ru
 obtain⟨its,rv,pl,_⟩:=I.list hl
 obtain rfl:=Y4 rv
 obtain⟨rs,r1,r2,r3⟩:=Yw I ps kvs le hps
 have hsz:(ps.map Value.ref).toArray.size=rs.length:=by simp [r2]
 have hR:(List.range (ps.map Value.ref).toArray.size).map (λj=>(rs[j]?).getD (Sum.inl 0,Value.none))=rs:=by
   rw[hsz]
   refine List.ext_getElem? λi=>?_
   rw[List.getElem?_map]
   by_cases hi:i < rs.length
   . rw[List.getElem?_range hi,List.getElem?_eq_getElem hi]
     simp [hi]
   . rw[List.getElem?_eq_none (by rw[List.length_range];omega),List.getElem?_eq_none (by omega)]
     rfl
 refine zE (knd:=qS X.prog X.w) (kv:=λj=>(rs[j]?).getD (Sum.inl 0,Value.none)) pl (λj v hj=>?_) (by rw[hsz,r2,le];exact hz) (I.ok.hd hc) λh' tk dd kp=>?_
 . have hj':(ps.map Value.ref)[j]?=some v:=by simpa using hj
   rw[List.getElem?_map]at hj'
   cases e:ps[j]? with
   | none=>rw[e]at hj';cases hj'
   | some a=>
     rw[e]at hj'
     obtain⟨kv,o,c,key,f1,f2,f3,f4,f5⟩:=r3 j a e
     refine⟨a,o,c,key,(Option.some.inj hj').symm,f2,f3,?_,?_⟩
     . show o.data=.seq #[key,((rs[j]?).getD (Sum.inl 0,Value.none)).2] c
       rw[f1]
       exact f4
     . show (qS X.prog X.w).is ((rs[j]?).getD (Sum.inl 0,Value.none)).1 key=true
       rw[f1]
       exact f5
 . rw[hR]at dd
   have hn:=I.hok.fresh (Nat.le_refl s.heap.objs.size)
   have big:(s.heap.objs.size==sysModules)=false:=beq_eq_false_iff_ne.mpr (Ne.symm (Nat.ne_of_lt I.big))
   have hlen:(Qu [] kvs).length<=sizeLine:=by
     have:=Q3 kvs []
     rw[List.length_nil]at this
     rw[sizeLine_eq]
     omega
   exact⟨.ref s.heap.objs.size,_,I.laid (a:=s.heap.objs.size) (o:=.dK (Qu [] kvs)) (h':=h') (t':=tk) kp (Nat.le_refl _) (Ul hlen big (r1.merge .nil) dd),rfl,q _ hn⟩
end
end L2
set_option Elab.async false
set_option linter.all false
set_option maxRecDepth 100000
set_option maxHeartbeats 4000000
namespace L2
open PySem PySem.Spec PyProof.Rows
section
variable {P:Program} {w:World} {K:PySem.W.Frag} {mg:Str->Option Value} {base:Heap}
theorem jM.okX {CX:XB} {x qual:Str} {st:Stmt} {f:Addr} {fd:FuncData} {N ps:List Str} {k:Nat} {sp:Sp} (F:jM K x qual st f fd) (S:qr N ps (qj st)) (len:∀vs H Q E,sp vs H Q E->vs.length=ps.length)
   (hbody:∀(cdv:Value) (A:Around) (outer:List Env) (s:Shared) (H:Hp) (vs:List V) (Q:VK) (E:XK),qW k (A.deeper (envOfC qual (qj st) s.heap.objs.size f cdv))->sp vs H Q E->
     ∃t,WJ (Zp CX P w K mg base N qual (qj st) f cdv A outer s H E) (Qd st) t/\t {nx:=λ_ H'=>Q .non H',rt:=Q} (Zh N vs) H):qm P w K mg base CX (k+1) f fd ps sp:=by
 obtain⟨oc,od,kV,doc,pm,an,cdv,ct,osl,rfl,lk,hcd⟩:=F.ex
 refine Gw lk hcd S len λA outer s H vs Q E hr hsp=>?_
 obtain⟨t,h,q⟩:=hbody cdv A outer s H vs Q E hr hsp
 exact⟨t,h.to,q⟩
end
section
variable {X:Cx} {es:List Expr} {t:TA} {pos:Pos}
end
end L2
set_option Elab.async false
set_option linter.all false
set_option maxRecDepth 100000
set_option maxHeartbeats 4000000
namespace L2
open PySem PySem.Spec PyProof.Rows
section
variable {X:Cx}
def N2 (K:PySem.W.Frag) (neg:Bool):R2:=λx y H Q=>∃d ds,DV K H x d/\DV K H y (.list ds)/\d.canLay0=true/\PyData.canLayAll0 ds=true/\d.depth<=40/\Q (.bl (if neg then !(ds.any λz=>PyData.eqv z d) else ds.any λz=>PyData.eqv z d)) H
theorem kH (hu:X.A.units+64 < cLine):J0 X (compareOp .NotIn) (N2 X.K true):=by
 intro pins s σ H x y v u Q I rx ry h
 obtain⟨d,ds,h1,h2,c1,c2,dp,q⟩:=h
 obtain⟨as,ra⟩:=h1.reads I rx
 obtain⟨bs,rb⟩:=h2.reads I ry
 refine SeqAt.notIn_list_reads rb ra c2 c1 ?_ ⟨.bl _,H,I,rfl,q⟩
 have:=Nat.min_le_right (PyData.depthAll ds) d.depth
 omega
end
end L2
namespace L2
open PySem PySem.Spec PyProof.Rows
end L2
set_option Elab.async false
set_option linter.all false
set_option maxRecDepth 100000
set_option maxHeartbeats 4000000
namespace L2
open PySem PySem.Spec PySem.W PyProof.Rows
theorem xQ {α:Type} {l:List α} (nd:l.Nodup) {i j:Nat} {hi:i < l.length} {hj:j < l.length} (e:l[i]=l[j]):i=j:=by
 have h:=List.pairwise_iff_getElem.mp nd
 rcases Nat.lt_trichotomy i j with c | c | c
 . exact absurd e (h i j hi hj c)
 . exact c
 . exact absurd e.symm (h j i hj hi c)
section
variable {α β:Type} {lt:Nat->Nat->Bool} {n:Nat}
def evT (lt:Nat->Nat->Bool):KasT α->α
 | .ret a=>a
 | .ask i j k=>evT lt (k (lt i j))
end
def ltS (zs:List Str) (i j:Nat):Bool:=decide ((zs.getD i "").cps.toList < (zs.getD j "").cps.toList)
def srt (zs:List Str):List Nat:=if zs.length < 2 then List.range zs.length else (evT (ltS zs) (kas_sort zs.length)).toList
section
variable {P:Program} {w:World} {B:Around} {F:Value->Shared->Prop} {z:Shared}
end
section
variable {X:Cx} {o:Expr} {td:TE} {p1 p2 pos1 pos2 ap cp:Pos}
end
section
variable {X:Cx}
end
end L2
set_option Elab.async false
set_option linter.all false
set_option maxRecDepth 100000
set_option maxHeartbeats 4000000
namespace L2
open PySem PySem.Spec PySem.W PyProof.Rows
section
variable {X:Cx}
def NZ (K:PySem.W.Frag):R2:=λx y H Q=>∃(a b:Addr) (xs:List V),x=.ref a/\y=.ref b/\SqL K H a xs/\SqL K H b []/\Q (.bl (!xs.isEmpty)) H
theorem vj (hu:X.A.units < cLine):J0 X (compareOp .NotEq) (NZ X.K):=by
 intro pins s σ H x y v u Q I rx ry h
 obtain⟨a,b,xs,rfl,rfl,ha,hb,q⟩:=h
 cases rx
 cases ry
 obtain⟨its,rv,pl,_⟩:=I.list ha
 obtain⟨its2,rv2,pl2,_⟩:=I.list hb
 have l2:its2=[]:=List.eq_nil_of_length_eq_zero rv2.length.symm
 subst l2
 cases xs with
 | nil=>
   have l1:its=[]:=List.eq_nil_of_length_eq_zero rv.length.symm
   subst l1
   exact EqBoolInt.of_rcne (SeqAt.RcNeAt.lists (e:=λ_=>true) pl.isList pl2.isList rfl hu λj h1 h2=>absurd h1 (Nat.not_lt_zero j)) ⟨.bl _,H,I,rfl,q⟩
 | cons x xs=>
   cases its with
   | nil=>cases rv
   | cons u' us'=>exact EqBoolInt.of_rcne (SeqAt.RcNeAt.lists_lengths pl.isList pl2.isList (by simp) hu) ⟨.bl true,H,I,rfl,q⟩
end
end L2
set_option Elab.async false
set_option linter.all false
set_option maxRecDepth 100000
set_option maxHeartbeats 4000000
namespace L2
open PySem PySem.Spec PySem.W PyProof.Rows
section
variable {P:Program} {w:World} {B:Around} {F:Value->Shared->Prop} {z:Shared}
end
section
variable {X:Cx}
end
end L2
set_option Elab.async false
set_option linter.all false
set_option maxRecDepth 100000
set_option maxHeartbeats 4000000
namespace L2
open PySem PySem.Spec PySem.W PyProof.Rows
section
variable {prog:Program} {w:World} {A:Around} {R:Result->Shared->Prop} {I:Addr} {fp wr:List Addr} {G:Array GenState->Array GenState->Prop} {n:Nat} {P:Nat->Value->Prop} {St:Nat->Shared->Prop}
end
section
variable {prog:Program} {w:World} {A:Around} {E:Value->Shared->Prop} {s:Shared}
end
section
variable {X:Cx} {e:Expr} {te:TE} {p1 p2 pos1 pos2:Pos}
end
end L2
set_option Elab.async false
set_option linter.all false
set_option maxRecDepth 100000
set_option maxHeartbeats 4000000
namespace L2
open PySem PyProof.Rows
theorem zg {α:Type} {K:PySem.W.Frag} {a D:Addr} {xs:List α} {enc:α->V} {out:α->Option V} {rest:St} {H:Hp} {tt:TT} {te:TE} {Q:Hp->Prop} (hD:H D=none) (ha:H a=some (.lst (xs.map enc))) (len:xs.length < sizeLine)
   (ht:∀x∈xs,∀G,Same H G->∀R:Bool->Hp->Prop,(∀G',Same G G'->R (out x).isSome G')->tt (some (enc x)::rest) G R)
   (he:∀x∈xs,∀v,out x=some v->∀G,Same H G->∀R:V->Hp->Prop,(∀G',Same G G'->R v G')->te (some (enc x)::rest) G R)
   (k:∀G,Same H G->G D=some (.lst (xs.filterMap out))->Q G):zz (Nr K a) (QP 0) tt te D (none::rest) H Q:=by
 have sD:Same H (upd H D (.lst [])):=λb o h=>by
   rw[qh (λe=>by rw[e,hD]at h;cases h)]
   exact h
 refine jL (K:=K) (a:=a) (xs:=xs.map enc) (λi σ' G=>(∃v0,σ'=v0::rest)/\Same H G/\G D=some (.lst ((xs.take i).filterMap out))) ⟨⟨none,rfl⟩,sD,qd⟩ (λi σ' G _ ⟨_,s,_⟩=>.of (s _ _ ha)) ?_ ?_
 . rintro i y σ' G hy ⟨⟨v0,rfl⟩,s,hG⟩
   rw[List.getElem?_map]at hy
   cases ex:xs[i]? with
   | none=>rw[ex]at hy;cases hy
   | some x=>
     rw[ex]at hy
     obtain rfl:=(Option.some.inj hy).symm
     have hx:x∈xs:=List.mem_of_getElem? ex
     have et:(xs.take (i+1)).filterMap out=(xs.take i).filterMap out++(out x).toList:=by
       rw[List.take_add_one,ex,List.filterMap_append]
       cases c:out x<;>simp [c]
     show tt (some (enc x)::rest) G _
     refine ht x hx G s _ λG1 s1=>?_
     cases c:out x with
     | none=>
       show if false=true then _ else _
       rw[if_neg Bool.false_ne_true]
       refine⟨⟨_,rfl⟩,λb o h=>s1 _ _ (s _ _ h),?_⟩
       rw[et,c]
       simpa using s1 _ _ hG
     | some v=>
       show if true=true then _ else _
       rw[if_pos rfl]
       refine he x hx v c G1 (λb o h=>s1 _ _ (s _ _ h)) _ λG2 s2=>?_
       refine⟨_,s2 _ _ (s1 _ _ hG),?_,⟨_,rfl⟩,?_,?_⟩
       . refine Nat.lt_of_le_of_lt (List.length_filterMap_le _ _) ?_
         rw[List.length_take]
         omega
       . intro b o h
         rw[qh (λe=>by rw[e,hD]at h;cases h)]
         exact s2 _ _ (s1 _ _ (s _ _ h))
       . rw[et,c]
         exact qd
 . rintro σ' G ⟨_,s,hG⟩
   rw[List.length_map,List.take_of_length_le (Nat.le_refl _)]at hG
   exact k G s hG
theorem vJ {α:Type} {K:PySem.W.Frag} {a D:Addr} {xs:List α} {enc:α->V} {out:α->Option V} {rest:St} {H:Hp} {tt:TT} {te:TE} {Q:Hp->Prop} (hD:H D=none) (ha:H a=some (.tup (xs.map enc))) (len:xs.length < sizeLine)
   (ht:∀x∈xs,∀G,Same H G->∀R:Bool->Hp->Prop,(∀G',Same G G'->R (out x).isSome G')->tt (some (enc x)::rest) G R)
   (he:∀x∈xs,∀v,out x=some v->∀G,Same H G->∀R:V->Hp->Prop,(∀G',Same G G'->R v G')->te (some (enc x)::rest) G R)
   (k:∀G,Same H G->G D=some (.lst (xs.filterMap out))->Q G):zz (Gz K a) (QP 0) tt te D (none::rest) H Q:=by
 have sD:Same H (upd H D (.lst [])):=λb o h=>by
   rw[qh (λe=>by rw[e,hD]at h;cases h)]
   exact h
 refine vI (K:=K) (a:=a) (xs:=xs.map enc) (λi σ' G=>(∃v0,σ'=v0::rest)/\Same H G/\G D=some (.lst ((xs.take i).filterMap out))) ⟨⟨none,rfl⟩,sD,qd⟩ (λi σ' G _ ⟨_,s,_⟩=>.of (s _ _ ha)) ?_ ?_
 . rintro i y σ' G hy ⟨⟨v0,rfl⟩,s,hG⟩
   rw[List.getElem?_map]at hy
   cases ex:xs[i]? with
   | none=>rw[ex]at hy;cases hy
   | some x=>
     rw[ex]at hy
     obtain rfl:=(Option.some.inj hy).symm
     have hx:x∈xs:=List.mem_of_getElem? ex
     have et:(xs.take (i+1)).filterMap out=(xs.take i).filterMap out++(out x).toList:=by
       rw[List.take_add_one,ex,List.filterMap_append]
       cases c:out x<;>simp [c]
     show tt (some (enc x)::rest) G _
     refine ht x hx G s _ λG1 s1=>?_
     cases c:out x with
     | none=>
       show if false=true then _ else _
       rw[if_neg Bool.false_ne_true]
       refine⟨⟨_,rfl⟩,λb o h=>s1 _ _ (s _ _ h),?_⟩
       rw[et,c]
       simpa using s1 _ _ hG
     | some v=>
       show if true=true then _ else _
       rw[if_pos rfl]
       refine he x hx v c G1 (λb o h=>s1 _ _ (s _ _ h)) _ λG2 s2=>?_
       refine⟨_,s2 _ _ (s1 _ _ hG),?_,⟨_,rfl⟩,?_,?_⟩
       . refine Nat.lt_of_le_of_lt (List.length_filterMap_le _ _) ?_
         rw[List.length_take]
         omega
       . intro b o h
         rw[qh (λe=>by rw[e,hD]at h;cases h)]
         exact s2 _ _ (s1 _ _ (s _ _ h))
       . rw[et,c]
         exact qd
 . rintro σ' G ⟨_,s,hG⟩
   rw[List.length_map,List.take_of_length_le (Nat.le_refl _)]at hG
   exact k G s hG
theorem WE {n:Nat} {D:Addr} {out:Nat->Option V} {rest:St} {H:Hp} {tt:TT} {te:TE} {Q:Hp->Prop} (hD:H D=none) (len:n < sizeLine)
   (ht:∀x,x < n->∀G,Same H G->∀R:Bool->Hp->Prop,(∀G',Same G G'->R (out x).isSome G')->tt (some (.int (x:Int))::rest) G R)
   (he:∀x,x < n->∀v,out x=some v->∀G,Same H G->∀R:V->Hp->Prop,(∀G',Same G G'->R v G')->te (some (.int (x:Int))::rest) G R)
   (k:∀G,Same H G->G D=some (.lst ((List.range n).filterMap out))->Q G):zz (GC 0 n) (QP 0) tt te D (none::rest) H Q:=by
 have sD:Same H (upd H D (.lst [])):=λb o h=>by
   rw[qh (λe=>by rw[e,hD]at h;cases h)]
   exact h
 refine Za (λi σ' G=>(∃v0,σ'=v0::rest)/\Same H G/\G D=some (.lst ((List.range i).filterMap out))) ⟨⟨none,rfl⟩,sD,qd⟩ ?_ ?_
 . rintro i σ' G hi ⟨⟨v0,rfl⟩,s,hG⟩
   rw[Int.zero_add]
   have et:(List.range (i+1)).filterMap out=(List.range i).filterMap out++(out i).toList:=by
     rw[List.range_succ,List.filterMap_append]
     cases c:out i<;>simp [c]
   show tt (some (.int (i:Int))::rest) G _
   refine ht i hi G s _ λG1 s1=>?_
   cases c:out i with
   | none=>
     show if false=true then _ else _
     rw[if_neg Bool.false_ne_true]
     refine⟨⟨_,rfl⟩,λb o h=>s1 _ _ (s _ _ h),?_⟩
     rw[et,c]
     simpa using s1 _ _ hG
   | some v=>
     show if true=true then _ else _
     rw[if_pos rfl]
     refine he i hi v c G1 (λb o h=>s1 _ _ (s _ _ h)) _ λG2 s2=>?_
     refine⟨_,s2 _ _ (s1 _ _ hG),?_,⟨_,rfl⟩,?_,?_⟩
     . refine Nat.lt_of_le_of_lt (List.length_filterMap_le _ _) ?_
       rw[List.length_range]
       omega
     . intro b o h
       rw[qh (λe=>by rw[e,hD]at h;cases h)]
       exact s2 _ _ (s1 _ _ (s _ _ h))
     . rw[et,c]
       exact qd
 . rintro σ' G ⟨_,s,hG⟩
   exact k G s hG
end L2
set_option Elab.async false
set_option linter.all false
set_option maxRecDepth 100000
set_option maxHeartbeats 4000000
namespace L2
open PySem PyProof.Rows
section
variable {prog:Program} {w:World} {KK:Type} [DecidableEq KK] {kd:HeapKind prog w KK} {A:Around} {E:Value->Shared->Prop} {s:Shared}
end
section
variable {X:Cx} {pins:List (Addr×Obj)} {σ:St} {H:Hp} {s:Shared} {a b:Addr} {v:V} {r:Value} {A:Around} {E:Value->Shared->Prop}
end
section
variable {X:Cx} {o e f:Expr} {apos cpos:Pos} {td ty tx:TE}
end
end L2
set_option Elab.async false
set_option linter.all false
set_option maxRecDepth 100000
set_option maxHeartbeats 4000000
namespace L2
open PySem PyProof.Rows
section
variable {X:Cx}
end
end L2
set_option Elab.async false
set_option linter.all false
set_option maxRecDepth 100000
set_option maxHeartbeats 4000000
namespace L2
open PySem PySem.Spec PyProof.Rows
section
variable {X:Cx} {pins:List (Addr×Obj)} {σ:St} {H:Hp} {s:Shared} {tg:Expr}
def wM (o:Obj):Nat:=match o.data with
 | .dict _ ep=>ep
 | _=>0
theorem qx.freeze {a:Addr} {kvs:List (qE×V)} (I:qx X pins σ H s) (e:H a=some (.dK kvs)):∃o,qx X pins σ (upd H a (.frz o (.dK kvs))) s:=by
 obtain⟨z,hd,vs,rel,o,es,ep,ho,r⟩:=(show qG X.prog X.w H s.heap a (.dK kvs) from I.hok a _ e)
 have mu:No (H a):=by rw[e];exact True.intro
 have un:Un X.fs [] H (upd H a (.frz o (.dK kvs))) s.heap s.heap:=Un.write mu (.inl rfl) (λb u _ q=>q) ⟨o,ho⟩
 have ok:Jk X.prog X.w (upd H a (.frz o (.dK kvs))) s.heap:=I.hok.write mu (.inl rfl) (λb u _ q=>q) ⟨o,ho⟩ ⟨ho,z,hd,vs,rel,o,es,ep,ho,r⟩
 exact⟨o,I.un (t':=s.toks) un ok⟩
def MQ (te:TE):TE:=λσ H Q=>te σ H λx H1=>∃a kvs,x=.ref a/\H1 a=some (.dK kvs)/\∀o,Q x (upd H1 a (.frz o (.dK kvs)))
theorem RX {e:Expr} {te:TE} (h:JE X e te):JE X e (MQ te):=.of (by
 have h:=h.to
 intro pins s σ H Q I hw
 refine q5 (h pins s σ H _ I hw) λv s1 ⟨x,H1,I1,r1,a,kvs,ex,ea,q⟩=>?_
 obtain⟨o,I2⟩:=I1.freeze ea
 exact⟨x,_,I2,r1,q o⟩)
def NA (a:Addr) (o:Obj) (kvs:List (qE×V)) (zs:List Str):It:=
 ⟨λi H=>H a=some (.frz o (.dK kvs))/\i < zs.length,λi H x H'=>H'=H/\∃z,zs[i]?=some z/\x=.str z,λi H=>H a=some (.frz o (.dK kvs))/\i=zs.length⟩
theorem Uf {P:Program} {w:World} {h:Heap} {a:Addr} {o:Obj} {kvs:List (qE×V)} (ok:Jk P w H h) (e:H a=some (.frz o (.dK kvs))):(a==sysModules)=false/\∃vs,KV kvs vs/\h.DictAt (qS P w) a vs (wM o):=by
 obtain⟨ho,z,hd,vs,rel,o',es,ep,ho',ex,dat,r⟩:=(show qG P w H h a (.frz o (.dK kvs)) from ok a _ e)
 rw[ho]at ho'
 cases ho'
 refine⟨hd,vs,rel,o,es,ho,ex,?_,r⟩
 unfold wM
 rw[dat]
theorem Ky {P:Program} {w:World} {kvs:List (qE×V)} {vs:List (qE×Value)} {zs:List Str} (rel:KV kvs vs) (ek:kvs.map (·.1)=zs.map Sum.inr) {i:Nat} {z:Str} {k:qE} {y v:Value} (ez:zs[i]?=some z) (f1:vs[i]?=some (k,y)) (f2:(qS P w).is k v=true):qK (.str z) v:=by
 have hi:i < kvs.length:=by
   have h1:=(List.getElem?_eq_some_iff.mp ez).1
   have h2:kvs.length=zs.length:=by simpa using congrArg List.length ek
   omega
 obtain⟨q',g1,g2,_⟩:=Jm rel (List.getElem?_eq_getElem hi)
 rw[f1]at g1
 cases g1
 have h1:(kvs.map (·.1))[i]?=some kvs[i].1:=by rw[List.getElem?_map,List.getElem?_eq_getElem hi];rfl
 rw[ek,List.getElem?_map,ez]at h1
 have e3:k=Sum.inr z:=g2.symm.trans (Option.some.inj h1).symm
 subst e3
 rcases jh (show YG (Sum.inr z) v=true from f2) with ⟨_,_,c,_⟩ | ⟨w',t,c,rfl⟩
 . cases c
 . cases c
   exact⟨t,rfl⟩
theorem vZ {P:Program} {w:World} {K:PySem.W.Frag} (a it:Addr) (o:Obj) (kvs:List (qE×V)) (zs:List Str) (ek:kvs.map (·.1)=zs.map Sum.inr):VD P w K tg (NA a o kvs zs) [it] it (λi h=>h.IsKeyIter it a i zs.length (wM o)) where
 mem:=by simp
 obj:=λi h st b hb=>by
   have e:b=it:=by simpa using hb
   subst e
   obtain⟨o,e,c,d⟩:=st
   exact⟨o,e,λv z=>by rw[d]at z;cases z⟩
 keep:=λi h h' st k=>let ⟨o,e,r⟩:=st;⟨o,k it (by simp) o e,r⟩
 item:=by
   intro X hP hw hK hc i pins s σ H E I hf st hg
   subst hP hw hK
   obtain⟨f0,f1,f2,f3,f4,f5⟩:=hf it (by simp)
   obtain⟨ea,hi⟩:=hg
   obtain⟨_,vs,rel,dat⟩:=Uf I.hok ea
   have lv:vs.length=zs.length:=by
     have h1:kvs.length=zs.length:=by simpa using congrArg List.length ek
     rw[<-Paired.length rel,h1]
   have ne:a≠it:=λe=>by rw[e,f0]at ea;cases ea
   rw[<-lv]at st
   refine(Walks.dictKeys (I.ok.hd hc) it a ne vs (wM o)).item i s _ _ (by omega) ⟨st,dat⟩ λv h' tk hv st' kk=>?_
   have I1:qx X pins σ H {s with heap:=h',toks:=tk}:=I.turned (λb o hb e=>kk b o (by simpa using hb) e) f0 f1 f3 f4 f5
   obtain⟨k,y,g1,g2⟩:=hv
   obtain⟨o2,e2,c2,d2⟩:=id st'.1
   refine⟨_,rfl,Vp (s:={s with heap:=h',toks:=tk}) e2 c2 d2 (by decide) ⟨.str zs[i],H,I1,Ky rel ek (List.getElem?_eq_getElem hi) g1 g2,⟨rfl,_,List.getElem?_eq_getElem hi,rfl⟩,?_,λb hb=>(hf b hb).1⟩⟩
   rw[<-lv]
   exact st'.1
 done:=by
   intro X hP hw hK hc i pins s σ H E I hf st hg
   subst hP hw hK
   obtain⟨f0,f1,f2,f3,f4,f5⟩:=hf it (by simp)
   obtain⟨ea,hi⟩:=hg
   obtain⟨_,vs,rel,dat⟩:=Uf I.hok ea
   have lv:vs.length=zs.length:=by
     have h1:kvs.length=zs.length:=by simpa using congrArg List.length ek
     rw[<-Paired.length rel,h1]
   have ne:a≠it:=λe=>by rw[e,f0]at ea;cases ea
   subst hi
   rw[<-lv]at st
   exact(Walks.dictKeys (I.ok.hd hc) it a ne vs (wM o)).done s _ _ ⟨st,dat⟩ λh' tk kk=>⟨rfl,I.turned (λb o hb e=>kk b o (by simpa using hb) e) f0 f1 f3 f4 f5⟩
 self:=λ_ _ _ _ _ st h=>wpAny_pyIter_keyiter st h
def qau (tl:TE):TI:=λσ H R=>tl σ H λx H1=>∃a o kvs zs,x=.ref a/\H1 a=some (.frz o (.dK kvs))/\kvs.map (·.1)=zs.map Sum.inr/\R (NA a o kvs zs) H1
theorem x8 {l:Expr} {tl:TE} (hl:JE X l tl):JI X tg l (qau tl):=.of (by
 have hl:=hl.to
 intro pins s σ H R I h
 refine q5 (hl pins s σ H _ I h) λv s1 ⟨x,H1,I1,r1,q1⟩=>?_
 obtain⟨a,o,kvs,zs,e,ea,ek,q⟩:=q1
 subst e
 cases r1
 obtain⟨hd,vs,rel,dat⟩:=Uf I1.hok ea
 have lv:vs.length=zs.length:=by
   have h1:kvs.length=zs.length:=by simpa using congrArg List.length ek
   rw[<-Paired.length rel,h1]
 refine wpAny_pyIter_dict hd dat ?_
 refine⟨s1.heap.objs.size,[s1.heap.objs.size],_,_,H1,rfl,I1.kept (t':=s1.toks) λb o e=>Heap.get?_push_of_some _ e,vZ a _ o kvs zs ek,?_,λb hb=>?_,q⟩
 . rw[<-lv]
   exact⟨_,Heap.get?_push_size _ rfl,rfl,rfl⟩
 . have e:b=s1.heap.objs.size:=by simpa using hb
   subst e
   exact I1.fpOk (Nat.le_refl _) (I1.hok.fresh (Nat.le_refl _)))
end
section
variable {a:Addr} {o:Obj} {kvs:List (qE×V)} {zs:List Str} {g:TG} {σ:St} {H:Hp}
theorem KM {tb:TS} {D:QS} (Pv:Nat->St->Hp->Prop) (h0:Pv 0 σ H) (hl:∀i σ H,i<=zs.length->Pv i σ H->H a=some (.frz o (.dK kvs)))
   (hs:∀i z σ H,zs[i]?=some z->Pv i σ H->g (.str z) σ H λσ2 H2=>tb {D with nx:=Pv (i+1),ct:=Pv (i+1),bk:=D.nx} σ2 H2) (hd:∀σ H,Pv zs.length σ H->D.nx σ H):
   ∃W:Nat->Nat->St->Hp->Prop,(∃m,W 0 m σ H)/\∀i m σ H,W i m σ H->
    ((NA a o kvs zs).stop i H/\D.nx σ H)\/((NA a o kvs zs).go i H/\∃N:St->Hp->Prop,(∀σ' H',N σ' H'->∃m',m' < m/\W (i+1) m' σ' H')/\∀x H',(NA a o kvs zs).yld i H x H'->g x σ H' λσ2 H2=>tb {D with nx:=N,ct:=N,bk:=D.nx} σ2 H2):=by
 refine⟨λi m σ H=>m=zs.length - i/\i<=zs.length/\Pv i σ H,⟨zs.length,by simp,Nat.zero_le _,h0⟩,?_⟩
 rintro i m σ H ⟨rfl,hi,p⟩
 have q:=hl i σ H hi p
 by_cases hlt:i < zs.length
 . refine .inr ⟨⟨q,hlt⟩,Pv (i+1),λσ' H' p'=>⟨zs.length - (i+1),by omega,rfl,hlt,p'⟩,λx H' y=>?_⟩
   obtain⟨e,z,ez,rfl⟩:=y
   subst e
   exact hs i z σ _ ez p
 . have e:i=zs.length:=by omega
   subst e
   exact .inl ⟨⟨q,rfl⟩,hd σ H p⟩
theorem KU {tt:TT} {te:TE} {D:Addr} {Q:Hp->Prop} (Pv:Nat->St->Hp->Prop) (h0:Pv 0 σ (upd H D (.lst []))) (hl:∀i σ' H',i<=zs.length->Pv i σ' H'->H' a=some (.frz o (.dK kvs)))
   (hs:∀i z σ' H',zs[i]?=some z->Pv i σ' H'->g (.str z) σ' H' (Xz tt te D (Pv (i+1)))) (hd:∀σ' H',Pv zs.length σ' H'->Q H'):zz (NA a o kvs zs) g tt te D σ H Q:=
 YS (n:=zs.length) Pv h0 (λi σ' H' hi p=>⟨⟨hl i σ' H' (Nat.le_of_lt hi) p,hi⟩,λx H2 y=>by
   obtain⟨e,z,ez,rfl⟩:=y
   subst e
   exact hs i z σ' _ ez p⟩) λσ' H' p=>⟨⟨hl _ σ' H' (Nat.le_refl _) p,rfl⟩,hd σ' H' p⟩
end
end L2
set_option Elab.async false
set_option linter.all false
set_option maxRecDepth 100000
set_option maxHeartbeats 4000000
namespace L2
open PySem PySem.Spec PyProof.Rows
section
variable {X:Cx} {pins pins0:List (Addr×Obj)} {σ σ0:St} {H H0:Hp} {s s0:Shared}
end
section
variable {X:Cx}
theorem NW {P:Program} {w:World} {H:Hp} {h:Heap} {a:Addr} {kvs:List (qE×V)} (ok:Jk P w H h) (e:Rd H a (.dK kvs)):(a==sysModules)=false/\∃vs,KV kvs vs/\h.DictOf (qS P w) a vs:=by
 obtain⟨_,hd,vs,rel,d⟩:=e.ok ok
 exact⟨hd,vs,rel,d⟩
theorem JK (b:Str) (u:Tok) (l:Addr) (c:Value) (es:Array DictEntry) (ep:Nat) (dd:Option Addr) (sl:Array (Option Value)):
   Meets (Builtin.«str.__eq__» ⟨[.str b u,.ref l],[]⟩) (λ_ R s=>s.heap.get? l=some {cls:=c,dict:=dd,data:=.dict es ep,slots:=sl}/\R (.ok (.ret .notImplemented)) s):=
 .of_wp λprog w A R s h=>by obtain⟨hp,g,d,tk,os⟩:=s;obtain⟨hl,h⟩:=h;wp_walk using wpAny_loadPart' hl,wpAny_load hl;exact⟨_,rfl,h⟩
theorem W7 {A:Around} {s:Shared} {l:Addr} {P:Program} {W:World} {vs:List (qE×Value)} (b:Str) (u:Tok) (hl:s.heap.DictOf (qS P W) l vs) (hu:A.units < cLine):SeqAt.RcAt A s (.str b u) (.ref l) false:=λprog w E Q h=>by
 obtain⟨⟨cls,dd,data,sl⟩,es,ep,ho,hc,hd,_⟩:=id hl
 have ti:=hl.typeIs
 obtain⟨hc1,_⟩:=hc
 simp only at hc1 hd
 subst hc1 hd
 refine SeqAt.rc_eq_decline_or (k:=false) (typeIs_str s b u) ti (by decide) F.sub_dict_str F.slot_str_eq F.slot_dict_eq_refl
   (λ_ hq=>call_meets F.slot_str_eq (typeIs_str s b u) F.entry_str_eq (F.args_str_eq_2 _ _) (JK b u l _ es ep dd sl) ⟨ho,hq⟩)
   (λQ' hq=>wpAny_call_entry PySem.F.slot_dict_eq_refl ti PySem.F.entry_dict_eq ?_ (PySem.F.args_dict_eq_2 _ _))
   (λ_ hq=>wpAny_of_eq (rfl:isSame (.str b u) (.ref l)=pure false) hq) (.inr hu) h
 show wpAny _ _ (Builtin.Dict.dictSlotArgs "__eq__" ⟨[.ref l,.str b u],[]⟩ >>= _) _ _ s
 refine wpAny_bind ?_
 unfold Builtin.Dict.dictSlotArgs
 refine wpAny_bind (wpAny_notOrdered_dict ti ?_)
 show wpAny _ _ (pure (Value.ref l,Value.str b u)) _ _ s
 refine wpAny_pure ?_
 refine wpAny_bind (wpAny_isInstance (T:="str") (typeIs_str s b u) PySem.F.sub_str_dict ?_)
 simp only[Bool.not_false,if_true]
 exact wpAny_bind (wpAny_rule (wpAny_pure ⟨_,rfl,hq⟩))
theorem Vv {A:Around} {s:Shared} {l:Addr} {P:Program} {W:World} {vs:List (qE×Value)} (b:Str) (u:Tok) (hl:s.heap.DictOf (qS P W) l vs) (hu:A.units < cLine):SeqAt.EqAt A s (.str b u) (.ref l) false:=λprog w E Q h=>by
 unfold eqBool
 refine wpAny_holding ?_
 refine wpAny_ite_split (λhab=>absurd (eq_of_beq hab) nofun) (λ_=>?_)
 exact wpAny_bind (W7 b u hl hu prog w E _ (wpAny_truthy_bool h))
def xb (K:PySem.W.Frag):R2:=λx y H Q=>∃(a p:Addr) (kvs:List (qE×V)) (zs:List Str),x=.ref a/\y=.ref p/\H a=some (.dK kvs)/\SqL K H p (zs.map V.str)/\Q (.bl true) H
theorem xo (hu:X.A.units+64 < cLine):J0 X (compareOp .NotIn) (xb X.K):=by
 intro pins s σ H x y v u Q I rx ry h
 obtain⟨a,p,kvs,zs,rfl,rfl,ea,hp,q⟩:=h
 cases rx
 cases ry
 obtain⟨hda,va,ra,da⟩:=NW I.hok (.inl ea)
 obtain⟨its,rv,pl,_⟩:=I.list hp
 refine SeqAt.notIn_listAt (λ_=>false) pl.isList (λy hy=>?_) ⟨.bl true,H,I,?_,q⟩
 . have hy':y∈its:=by simpa using hy
   obtain⟨i,hi,e⟩:=List.getElem_of_mem hy'
   have l:=rv.length
   obtain⟨y',e1,r1⟩:=Jm rv (List.getElem?_eq_getElem (by omega:i < (zs.map V.str).length))
   rw[List.getElem?_eq_getElem hi,e]at e1
   cases e1
   rw[List.getElem_map]at r1
   obtain⟨t,rfl⟩:=r1
   exact Vv _ t da (by show X.A.units+1 < cLine;omega)
 . show Value.bool _=Value.bool _
   simp
def u4 (K:PySem.W.Frag):R2:=λx y H Q=>N2 K true x y H Q\/xb K x y H Q
theorem kG (hu:X.A.units+64 < cLine):J0 X (compareOp .NotIn) (u4 X.K):=λpins s σ H x y v u Q I rx ry h=>
 h.elim (λh=>kH hu pins s σ H x y v u Q I rx ry h) λh=>xo hu pins s σ H x y v u Q I rx ry h
end
end L2
namespace L2
open PySem PyProof.Rows
end L2
set_option Elab.async false
set_option linter.all false
set_option maxRecDepth 100000
set_option maxHeartbeats 4000000
namespace HT
open PySem PySem.Spec PyProof.Rows
section
variable {prog:Program} {w:World} {A:Around} {E:Value->Shared->Prop} {s:Shared}
theorem getItem_tuple_whole {t sl:Addr} {items:Array Value} {vl vu:Value} {lo hi:Option Int} {Q:Value->Shared->Prop} (ht:IsTup s.heap t items) (hs:s.heap.IsSliceOf sl vl vu .none) (pl:IsPart vl lo) (pu:IsPart vu hi)
   (hw:sIx items.size 0 lo=0/\sIx items.size items.size hi=items.size) (h:Q (.ref t) s):wpAny (model prog w) A (getItem (.ref t) (.ref sl)) Q E s:=by
 obtain⟨os,hos,hcs,hds⟩:=id hs
 have hTs:s.TypeIs (.ref sl) "slice":=⟨os,hos,hcs⟩
 unfold getItem
 try with_reducible refine wpAny_holding ?_
 first | refine wpAny_bind (wpAny_pure ?_) | skip
 refine wpAny_bind (wpAny_sequenceKey ht.typeIs (by decide) ?_)
 refine wpAny_bind (wpAny_callSpecial?_slot (name:=Str.ofString "__getitem__") ht.typeIs PyProof.Rows.slot_tuple_getitem
   (wpAny_call_entry PyProof.Rows.slot_tuple_getitem ht.typeIs entry_tuple_getitem ?_ (args_tuple_getitem _ _)))
 show wpAny _ _ (Builtin.Tuple.tupleItemsOf (.ref t) >>= _) _ _ s
 refine wpAny_bind (tupleItemsOf_ ht ?_)
 refine wpAny_bind (wpAny_typeOf hTs ?_)
 rw[if_pos (by decide)]
 refine wpAny_bind (Q9 hs pl pu ?_)
 have hno:(((sIx items.size 0 lo:Nat):Int)==0&&(1:Int)==1&&(sIx items.size items.size hi - sIx items.size 0 lo)==items.size)=true:=by
   rw[hw.1,hw.2]
   simp
 show wpAny _ _ (if (((sIx items.size 0 lo:Nat):Int)==0&&(1:Int)==1&&(sIx items.size items.size hi - sIx items.size 0 lo)==items.size)=true then _ else _) _ _ s
 rw[if_pos hno]
 refine wpAny_bind ?_
 unfold Builtin.Tuple.tupleIsExact
 refine wpAny_bind (wpAny_typeOf ht.typeIs (wpAny_pure ?_))
 rw[if_pos (by decide)]
 first
   | exact wpAny_bind (wpAny_rule (wpAny_pure ⟨_,rfl,wpAny_pure h⟩))
   | exact wpAny_bind (wpAny_rule (wpAny_bind (wpAny_pure (wpAny_pure ⟨_,rfl,wpAny_pure h⟩))))
end
end HT
namespace L2
open PySem PySem.Spec PyProof.Rows
section
variable {X:Cx}
def NX (K:PySem.W.Frag):V->Option Int->Option Int->Hp->VK->Prop:=λx lo hi H Q=>NY K x lo hi H Q\/∃a xs,x=.ref a/\SqT K H a xs/\(HT.sIx xs.length 0 lo=0/\HT.sIx xs.length xs.length hi=xs.length)/\Q (.ref a) H
theorem uC:Mt X (NX X.K):=by
 intro pins s σ H x v vl vu lo hi sl Q I rx hs pl pu h
 rcases h with h | ⟨a,xs,rfl,hx,hw,q⟩
 . exact Ra pins s σ H x v vl vu lo hi sl Q I rx hs pl pu h
 . cases rx
   obtain⟨its,r,ht,hz⟩:=I.tuple hx
   have hlen:its.toArray.size=xs.length:=by rw[List.size_toArray];exact r.length.symm
   exact⟨"tuple",_,PyProof.Rows.slot_tuple_getitem.lookup,ht.typeIs,HT.getItem_tuple_whole ht hs pl pu (by rw[hlen];exact hw) ⟨.ref a,H,I,rfl,q⟩⟩
end
end L2
namespace L2
open PySem PyProof.Rows
end L2
set_option Elab.async false
set_option linter.all false
set_option maxRecDepth 100000
set_option maxHeartbeats 4000000
namespace L2
open PySem PySem.Spec PyProof.Rows
def GX (i:Nat) (C:Addr->Sp->Prop) (E:St->XK) (t:TA):TE:=λσ H Q=>∃f sp,σ[i]?=some (some (.ref f))/\C f sp/\t σ H λvs H1=>sp vs H1 Q (E σ)
section
variable {X:Cx} {CX:XB} {C:Addr->Sp->Prop} {E:St->XK} {x:Str} {p pos:Pos} {e:Expr} {es:List Expr} {t:TA} {i:Nat}
theorem wo (hN:X.N[i]?=some x) (hv:Ni X.env.scope x) (hC:∀f sp,C f sp->∃(k:Nat) (fd:FuncData) (ps:List Str),qm X.prog X.w X.K X.mg X.base CX k f fd ps sp/\qW k X.A/\PySem.W.keepIn X.K (.ref f)=true/\jx X.K fd ps []) (hx:z6 CX X E) (ha:JA X (e::es) t) (hdb:(x==("__debug__":Str))=false:=by decide) (hcd:(x==("__classdict__":Str))=false:=by decide) (he:starEach (e::es) X.env=(false,eval e X.env)::starEach es X.env:=by rfl) (hpl:(backTo pos (starEach es X.env)).any (·.1)=false:=by rfl):JE X (.Call (.Name x p) (e::es) [] pos) (GX i C E t):=.of (by
 have ha:=ha.to
 intro pins s σ H Q I h
 obtain⟨f,sp,eσ,c,h⟩:=h
 obtain⟨k,fd,ps,F,hr,hk,hb⟩:=hC f sp c
 refine wpAny_Call_Name_kw (q5 (xi hN hv hdb hcd pins s σ H (λv H'=>v=.ref f/\H'=H) I ⟨_,eσ,rfl,rfl⟩) λu s1 ⟨v,H1,I1,r1,e1,e2⟩=>?_)
 subst e1 e2
 cases r1
 exact PySem.W.callWith_K (h₀:=X.base) I1.ok.mod.kin hk (q5 (ha pos pins s1 σ _ _ I1 h) λus s2 ⟨vs,H2,I2,r,q⟩=>⟨I2.kIn,uX F hr hb .nil hx I2 r (by simpa using q)⟩) he hpl)
end
end L2
namespace Rb
def js (ns:List Nat):Nat:=ns.foldl (·^^^ ·) 0
def setN (ns:List Nat):Nat:=ns.foldl (λb n=>b ||| 2^n) 0
def memN (b n:Nat):List Nat:=(List.range n).filter λi=>b.testBit i
def Lacks (r:Nat) (ns:List Nat):Prop:=r∉ns/\∀x,x < r->x∈ns
theorem RI (x:Nat):x % 2=(x.testBit 0).toNat:=by
 rw[Nat.testBit_zero]
 rcases Nat.mod_two_eq_zero_or_one x with h | h<;>simp [h]
theorem or_and_xor (a:Nat):∀b,(a ||| b)=(a&&& b)+(a^^^b):=by
 induction a using Nat.strongRecOn with
 | ind a ih=>
   intro b
   by_cases ha:a=0
   . subst ha;simp
   . have i:=ih (a / 2) (by omega) (b / 2)
     have o1:(a ||| b) / 2=(a / 2) ||| (b / 2):=Nat.or_div_two
     have n1:(a&&& b) / 2=(a / 2)&&& (b / 2):=Nat.and_div_two
     have x1:(a^^^b) / 2=(a / 2)^^^ (b / 2):=Nat.xor_div_two
     have m:(a ||| b) % 2=(a&&& b) % 2+(a^^^b) % 2:=by
       rw[RI (a ||| b),RI (a&&& b),RI (a^^^b),Nat.testBit_or,Nat.testBit_and,Nat.testBit_xor]
       cases a.testBit 0<;>cases b.testBit 0<;>rfl
     omega
theorem wI (ns:List Nat):∀b k,(ns.foldl (λb n=>b ||| 2^n) b).testBit k=(b.testBit k || decide (k∈ns)):=by
 induction ns with
 | nil=>intro b k;simp
 | cons n ns ih=>
   intro b k
   rw[List.foldl_cons,ih,Nat.testBit_or,Nat.testBit_two_pow]
   by_cases h:n=k
   . subst h;simp
   . have h':¬k=n:=λe=>h e.symm
     simp [h,h']
theorem testBit_setN (ns:List Nat) (k:Nat):(setN ns).testBit k=decide (k∈ns):=by
 unfold setN
 rw[wI]
 simp
theorem mem_memN {b n i:Nat}:i∈memN b n↔i < n/\b.testBit i=true:=by
 unfold memN
 simp
theorem WS {b k m:Nat} (h:b < 2^m) (hk:m<=k):b.testBit k=false:=Nat.testBit_lt_two_pow (Nat.lt_of_lt_of_le h (Nat.pow_le_pow_right (by decide) hk))
theorem Xk {b m:Nat} (h:b < 2^m):∀n,m<=n->memN b n=memN b m:=by
 intro n hn
 obtain⟨k,rfl⟩:=Nat.le.dest hn
 unfold memN
 rw[List.range_add,List.filter_append]
 have e:((List.range k).map (m+·)).filter (λi=>b.testBit i)=[]:=by
   rw[List.filter_eq_nil_iff]
   intro i hi
   obtain⟨j,_,rfl⟩:=List.mem_map.mp hi
   rw[WS h (Nat.le_add_right _ _)]
   simp
 rw[e,List.append_nil]
theorem memN_same {b m n:Nat} (hm:b < 2^m) (hn:b < 2^n):memN b n=memN b m:=by
 by_cases h:m<=n
 . exact Xk hm n h
 . exact(Xk hn m (by omega)).symm
theorem setN_lt {ns:List Nat} {m:Nat} (h:∀x∈ns,x < m):setN ns < 2^m:=by
 refine Nat.lt_pow_two_of_testBit _ λi hi=>?_
 rw[testBit_setN]
 refine decide_eq_false λz=>?_
 have:=h i z
 omega
def turnN (b n m:Nat):Nat:=setN ((memN b m).map (·^^^n))
theorem xor_lt {a b m:Nat} (h1:a < 2^m) (h2:b < 2^m):a^^^b < 2^m:=Nat.xor_lt_two_pow h1 h2
theorem UA (a b:Nat):(a^^^b)^^^b=a:=by rw[Nat.xor_assoc,Nat.xor_self,Nat.xor_zero]
theorem XI {b n m k:Nat} (hm:m<=2^k) (hn:n < 2^k):turnN b n m < 2^ (2^k):=by
 refine setN_lt λx hx=>?_
 obtain⟨y,hy,rfl⟩:=List.mem_map.mp hx
 exact xor_lt (Nat.lt_of_lt_of_le (mem_memN.mp hy).1 hm) hn
theorem pigeon:∀(n:Nat) (ns:List Nat),(∀x,x < n->x∈ns)->n<=ns.length:=by
 intro n
 induction n with
 | zero=>intro ns _;exact Nat.zero_le _
 | succ n ih=>
   intro ns h
   have hn:n∈ns:=h n (Nat.lt_succ_self n)
   have:=ih (ns.erase n) λx hx=>(List.mem_erase_of_ne (by omega)).mpr (h x (Nat.lt_succ_of_lt hx))
   rw[List.length_erase_of_mem hn]at this
   have hp:0 < ns.length:=List.length_pos_of_mem hn
   omega
theorem Lacks.uniq {r s:Nat} {ns:List Nat} (h:Lacks r ns) (g:Lacks s ns):r=s:=by
 rcases Nat.lt_trichotomy r s with z | z | z
 . exact absurd (g.2 r z) h.1
 . exact z
 . exact absurd (h.2 s z) g.1
def Jz (ns:List Nat):Nat->Nat
 | 0=>0
 | i+1=>if Jz ns i∈ns then Jz ns i+1 else Jz ns i
theorem Ua (ns:List Nat):∀i,(∀x,x < Jz ns i->x∈ns)/\Jz ns i<=i/\(Jz ns i < i->Jz ns i∉ns):=by
 intro i
 induction i with
 | zero=>exact⟨λx hx=>absurd hx (Nat.not_lt_zero _),Nat.le_refl _,λh=>absurd h (Nat.lt_irrefl _)⟩
 | succ i ih=>
   obtain⟨h1,h2,h3⟩:=ih
   unfold Jz
   by_cases h:Jz ns i∈ns
   . rw[if_pos h]
     refine⟨λx hx=>?_,by omega,λhlt=>absurd h (h3 (by omega))⟩
     by_cases e:x=Jz ns i
     . rw[e];exact h
     . exact h1 x (by omega)
   . rw[if_neg h]
     exact⟨h1,by omega,λ_=>h⟩
theorem lackI_lacks (ns:List Nat):Lacks (Jz ns (ns.length+1)) ns:=by
 obtain⟨h1,h2,h3⟩:=Ua ns (ns.length+1)
 refine⟨h3 ?_,h1⟩
 have:=pigeon _ _ h1
 omega
def lackN (ns:List Nat):Nat:=Jz ns (ns.length+1)
theorem lackN_eq {r:Nat} {ns:List Nat} (h:Lacks r ns):r=lackN ns:=h.uniq (lackI_lacks ns)
theorem memN_succ (b i:Nat):memN b (i+1)=memN b i++(if b.testBit i then [i] else []):=by
 unfold memN
 rw[List.range_succ,List.filter_append]
 congr 1
 by_cases h:b.testBit i=true
 . simp [h]
 . simp [h]
theorem testBit_div (b i:Nat):b.testBit i=decide (b / 2^i % 2=1):=by
 rw[Nat.testBit_eq_decide_div_mod_eq]
theorem zh (ns:List Nat) (n:Nat):js (ns++[n])=js ns^^^n:=by unfold js;rw[List.foldl_append];rfl
theorem setN_snoc (ns:List Nat) (n:Nat):setN (ns++[n])=setN ns ||| 2^n:=by unfold setN;rw[List.foldl_append];rfl
end Rb
namespace Rb
theorem j5 {b n k:Nat} (hn:n < 16):(turnN b n 16).testBit k=(decide (k < 16)&&b.testBit (k^^^n)):=by
 unfold turnN
 rw[testBit_setN,Bool.eq_iff_iff,decide_eq_true_iff,Bool.and_eq_true,decide_eq_true_iff,List.mem_map]
 constructor
 . rintro⟨y,hy,rfl⟩
   obtain⟨h1,h2⟩:=mem_memN.mp hy
   exact⟨xor_lt (m:=4) h1 hn,by rw[UA];exact h2⟩
 . rintro⟨h1,h2⟩
   exact⟨k^^^n,mem_memN.mpr ⟨xor_lt (m:=4) h1 hn,h2⟩,UA k n⟩
theorem ka {b x y:Nat} (hx:x < 16) (hy:y < 16):turnN (turnN b x 16) y 16=turnN b (x^^^y) 16:=by
 refine Nat.eq_of_testBit_eq λk=>?_
 have hxy:x^^^y < 16:=xor_lt (m:=4) hx hy
 rw[j5 hy,j5 hx,j5 hxy,Nat.xor_assoc,Nat.xor_comm y x]
 by_cases hk:k < 16
 . rw[decide_eq_true hk,decide_eq_true (xor_lt (m:=4) hk hy)]
   simp
 . rw[decide_eq_false hk]
   simp
theorem yw (n:Nat):turnN 0 n 16=0:=by
 unfold turnN
 have e:memN 0 16=[]:=by decide
 rw[e]
 rfl
inductive W where
 | num (n:Nat)
 | edl (b:Nat)
deriving DecidableEq
def ZF:W->W->W
 | .num a,.num b=>.num (a^^^b)
 | .num a,.edl b=>.edl (turnN b a 16)
 | .edl b,.num a=>.edl (turnN b a 16)
 | .edl _,.edl _=>.edl 0
def okW:W->Prop
 | .num n=>n < 16
 | .edl b=>b < 65536
def QU (ws:List W):List Nat:=ws.filterMap λ| .num n=>some n | .edl _=>none
def Qx (ws:List W):List Nat:=ws.filterMap λ| .num _=>none | .edl b=>some b
def Qg (ws:List W):W:=match Qx ws with
 | []=>.num (js (QU ws))
 | [b]=>.edl (turnN b (js (QU ws)) 16)
 | _=>.edl 0
theorem yi (ns:List Nat):∀a,ns.foldl (·^^^ ·) a=a^^^js ns:=by
 induction ns with
 | nil=>intro a;simp [js]
 | cons n ns ih=>
   intro a
   unfold js
   rw[List.foldl_cons,List.foldl_cons,ih (a^^^n),ih (0^^^n),Nat.zero_xor,Nat.xor_assoc]
theorem QT (n:Nat) (ns:List Nat):js (n::ns)=n^^^js ns:=by
 show ns.foldl (·^^^ ·) (0^^^n)=_
 rw[yi,Nat.zero_xor]
theorem ZX {ns:List Nat} (h:∀x∈ns,x < 16):js ns < 16:=by
 induction ns with
 | nil=>decide
 | cons n ns ih=>
   rw[QT]
   exact xor_lt (m:=4) (h n (List.mem_cons_self ..)) (ih λx hx=>h x (List.mem_cons_of_mem _ hx))
theorem Wn {ws:List W} (h:∀w∈ws,okW w):∀x∈QU ws,x < 16:=by
 intro x hx
 obtain⟨w,hw,e⟩:=List.mem_filterMap.mp hx
 cases w with
 | num n=>cases e;exact h _ hw
 | edl b=>cases e
theorem Xh (ws:List W) (w:W):QU (ws++[w])=QU ws++(match w with | .num n=>[n] | .edl _=>[]):=by
 unfold QU
 rw[List.filterMap_append]
 cases w<;>rfl
theorem Xd (ws:List W) (w:W):Qx (ws++[w])=Qx ws++(match w with | .num _=>[] | .edl b=>[b]):=by
 unfold Qx
 rw[List.filterMap_append]
 cases w<;>rfl
theorem yx {ws:List W} {w:W} (h:∀w∈ws,okW w) (hw:okW w):Qg (ws++[w])=ZF (Qg ws) w:=by
 have hl:=ZX (Wn h)
 unfold Qg
 rw[Xd,Xh]
 cases w with
 | num n=>
   simp only[List.append_nil]
   have e:js (QU ws++[n])=js (QU ws)^^^n:=zh _ _
   cases hs:Qx ws with
   | nil=>simp only[e];rfl
   | cons b r=>
     cases r with
     | nil=>
       simp only[e]
       show W.edl _=W.edl _
       rw[ka hl hw]
     | cons c r=>
       show W.edl 0=W.edl _
       rw[yw]
 | edl b=>
   simp only[List.append_nil]
   cases hs:Qx ws with
   | nil=>rfl
   | cons c r=>
     cases r with
     | nil=>rfl
     | cons c2 r=>rfl
theorem yy {ws:List W} (h:∀w∈ws,okW w):okW (Qg ws):=by
 have hl:=ZX (Wn h)
 unfold Qg
 split
 . exact hl
 . exact XI (k:=4) (Nat.le_refl _) hl
 . show 0 < 65536;decide
theorem wJ {ws:List W} (h:∀w∈ws,okW w):∀i,i<=ws.length->(ws.take i).foldl ZF (.num 0)=Qg (ws.take i):=by
 intro i
 induction i with
 | zero=>intro _;rfl
 | succ i ih=>
   intro hi
   have hlt:i < ws.length:=hi
   have e:ws.take (i+1)=ws.take i++[ws[i]]:=by rw[List.take_add_one,List.getElem?_eq_getElem hlt];rfl
   rw[e,List.foldl_append,ih (Nat.le_of_lt hlt),yx (λw hw=>h w (List.mem_of_mem_take hw)) (h _ (List.getElem_mem hlt))]
   rfl
theorem Vu {ws:List W} (h:∀w∈ws,okW w):ws.foldl ZF (.num 0)=Qg ws:=by
 have:=wJ h ws.length (Nat.le_refl _)
 rw[List.take_of_length_le (Nat.le_refl _)]at this
 exact this
end Rb
set_option linter.all false
namespace MLab
theorem UG:∀(g m:Nat),m < g->∃k,m.testBit k=false/\g.testBit k=true/\∀j,k < j->m.testBit j=g.testBit j:=by
 intro g
 induction g using Nat.strongRecOn with
 | _ g ih=>
   intro m h
   by_cases c:m / 2 < g / 2
   . obtain⟨k,h1,h2,h3⟩:=ih (g / 2) (by omega) (m / 2) c
     refine⟨k+1,by rw[Nat.testBit_succ];exact h1,by rw[Nat.testBit_succ];exact h2,λj hj=>?_⟩
     cases j with
     | zero=>omega
     | succ j=>rw[Nat.testBit_succ,Nat.testBit_succ];exact h3 j (by omega)
   . have e:m / 2=g / 2:=by omega
     refine⟨0,?_,?_,λj hj=>?_⟩
     . rw[Nat.testBit_zero];simp;omega
     . rw[Nat.testBit_zero];simp;omega
     . cases j with
       | zero=>omega
       | succ j=>rw[Nat.testBit_succ,Nat.testBit_succ,e]
theorem RK {x y:Nat} (k:Nat) (hx:x.testBit k=false) (hy:y.testBit k=true) (h:∀j,k < j->x.testBit j=y.testBit j):x < y:=by
 rcases Nat.lt_trichotomy x y with c | rfl | c
 . exact c
 . rw[hx]at hy;cases hy
 . obtain⟨i,h1,h2,h3⟩:=UG _ _ c
   rcases Nat.lt_trichotomy i k with d | rfl | d
   . have:=h3 k d;rw[hx,hy]at this;cases this
   . rw[hy]at h1;cases h1
   . have:=h i d;rw[h1,h2]at this;cases this
def Qf (ns:List Nat):Nat:=ns.foldr (λa b=>a^^^b) 0
theorem ZW (a:Nat) (ns:List Nat):Qf (a::ns)=a^^^Qf ns:=rfl
theorem WL {k:Nat}:∀{ns:List Nat},(Qf ns).testBit k=true->∃n∈ns,n.testBit k=true
 | [],h=>by simp [Qf]at h
 | a::ns,h=>by
   rw[ZW,Nat.testBit_xor]at h
   cases e:a.testBit k with
   | true=>exact⟨a,List.mem_cons_self,e⟩
   | false=>
     rw[e,Bool.false_xor]at h
     obtain⟨n,hn,h'⟩:=WL h
     exact⟨n,List.mem_cons_of_mem _ hn,h'⟩
theorem vV {ns:List Nat} {m:Nat} (h:m < Qf ns):∃n∈ns,n^^^Qf ns^^^m < n:=by
 obtain⟨k,h1,h2,h3⟩:=UG _ _ h
 obtain⟨n,hn,hk⟩:=WL h2
 refine⟨n,hn,RK k ?_ hk λj hj=>?_⟩
 . rw[Nat.testBit_xor,Nat.testBit_xor,hk,h1,h2];rfl
 . rw[Nat.testBit_xor,Nat.testBit_xor,h3 j hj]
   cases n.testBit j<;>cases (Qf ns).testBit j<;>rfl
section
variable {α:Type} (G:α->List α)
structure ZV (ok:α->Prop) (num:α->Option Nat) (stp:α->Nat):Prop where
 cl:∀{x y},ok x->y∈G x->ok y
 n1:∀{x n m},ok x->num x=some n->m < n->∃y∈G x,num y=some m/\stp y < stp x
 n2:∀{x y n},ok x->num x=some n->y∈G x->num y≠some n
 n3:∀{x y n},ok x->num x=some n->y∈G x->(∀m,num y=some m->n < m)->∃z∈G y,num z=some n/\stp z < stp x
 n4:∀{x y n m},ok x->num x=some n->y∈G x->num y=some m->m < n->stp y < stp x
 e:∀{x m},ok x->num x=none->(∀j,j < m->∃y∈G x,num y=some j)->(∀y∈G x,num y≠some m)->∃y∈G x,num y=none/\∀z∈G y,num z≠some m
section
variable {β:Type} (M:β->List β)
mutual
inductive zF:β->Prop
 | mk {a:β} (h:∀b∈M a,Won b):zF a
inductive Won:β->Prop
 | mk {a b:β} (m:b∈M a) (h:zF b):Won a
end
end
def mv:List α->List (List α)
 | []=>[]
 | x::h=>(G x).map (λy=>y::h)++(mv h).map (λb=>x::b)
theorem jJ:∀{a b:List α},b∈mv G a↔∃p x y q,a=p++x::q/\y∈G x/\b=p++y::q
 | [],b=>by
   constructor
   . intro h;simp [mv]at h
   . rintro⟨p,x,y,q,e,_⟩;simp at e
 | x::h,b=>by
   unfold mv
   rw[List.mem_append,List.mem_map,List.mem_map]
   constructor
   . rintro(⟨y,hy,rfl⟩ | ⟨b',hb,rfl⟩)
     . exact⟨[],x,y,h,rfl,hy,rfl⟩
     . obtain⟨p,u,y,q,rfl,hy,rfl⟩:=jJ.mp hb
       exact⟨x::p,u,y,q,rfl,hy,rfl⟩
   . rintro⟨p,u,y,q,e,hy,rfl⟩
     cases p with
     | nil=>
       cases e
       exact .inl ⟨y,hy,rfl⟩
     | cons v p=>
       cases e
       exact .inr ⟨p++y::q,jJ.mpr ⟨p,u,y,q,rfl,hy,rfl⟩,rfl⟩
variable {G} {ok:α->Prop} {num:α->Option Nat} {stp:α->Nat}
def QC (num:α->Option Nat) (h:List α):List Nat:=h.filterMap num
def ends (num:α->Option Nat) (h:List α):Nat:=(h.filter λx=>(num x).isNone).length
theorem WM (a b:List Nat):Qf (a++b)=Qf a^^^Qf b:=by
 induction a with
 | nil=>show Qf b=0^^^Qf b;rw[Nat.zero_xor]
 | cons x a ih=>rw[List.cons_append,ZW,ih,ZW,Nat.xor_assoc]
theorem j7 {p q:List α} {x:α} {n:Nat} (h:num x=some n):Qf (QC num (p++x::q))=n^^^Qf (QC num (p++q)):=by
 unfold QC
 rw[List.filterMap_append,List.filterMap_cons,h,List.filterMap_append,WM,WM]
 show _^^^ (n^^^Qf _)=_
 rw[<-Nat.xor_assoc,Nat.xor_comm _ n,Nat.xor_assoc]
theorem Vj {p q:List α} {x:α} (h:num x=none):QC num (p++x::q)=QC num (p++q):=by
 unfold QC
 rw[List.filterMap_append,List.filterMap_cons,h,List.filterMap_append]
theorem jw {p q:List α} {x:α} {n:Nat} (h:num x=some n):ends num (p++x::q)=ends num (p++q):=by
 unfold ends
 rw[List.filter_append,List.filter_cons,h,List.filter_append]
 rfl
theorem Qc {p q:List α} {x:α} (h:num x=none):ends num (p++x::q)=ends num (p++q)+1:=by
 unfold ends
 rw[List.filter_append,List.filter_cons,h,List.filter_append,List.length_append,List.length_append]
 show _+(_+1)=_
 omega
def Vy (stp:α->Nat) (h:List α):Nat:=(h.map stp).sum
theorem JZ {p q:List α} {x:α}:Vy stp (p++x::q)=stp x+Vy stp (p++q):=by
 unfold Vy
 rw[List.map_append,List.map_cons,List.sum_append,List.sum_cons,List.map_append,List.sum_append]
 omega
theorem Zu {a b c:Nat} (h:a^^^c=b^^^c):a=b:=by
 have:a^^^c^^^c=b^^^c^^^c:=by rw[h]
 rwa [Nat.xor_assoc,Nat.xor_assoc,Nat.xor_self,Nat.xor_zero,Nat.xor_zero]at this
theorem XJ (L:ZV G ok num stp) {h:List α} (hk:∀x∈h,ok x) {m:Nat} (lt:m < Qf (QC num h)):∃p x y q,h=p++x::q/\y∈G x/\(∃n k,num x=some n/\num y=some k)/\Qf (QC num (p++y::q))=m/\stp y < stp x:=by
 obtain⟨n,hn,hl⟩:=vV lt
 obtain⟨x,hx,ex⟩:=List.mem_filterMap.mp hn
 obtain⟨p,q,rfl⟩:=List.append_of_mem hx
 obtain⟨y,hy,ey,ly⟩:=L.n1 (hk x hx) ex hl
 refine⟨p,x,y,q,rfl,hy,⟨n,_,ex,ey⟩,?_,ly⟩
 rw[j7 ey,j7 ex]
 generalize Qf (QC num (p++q))=r
 rw[<-Nat.xor_assoc n n r,Nat.xor_self,Nat.zero_xor,Nat.xor_comm r m,Nat.xor_assoc,Nat.xor_self,Nat.xor_zero]
theorem Zo {h p q:List α} {x y:α} (L:ZV G ok num stp) (hk:∀x∈h,ok x) (e:h=p++x::q) (hy:y∈G x):∀z∈p++y::q,ok z:=λz hz=>by
 subst e
 rcases List.mem_append.mp hz with hz | hz
 . exact hk z (List.mem_append_left _ hz)
 . rcases List.mem_cons.mp hz with rfl | hz
   . exact L.cl (hk x (by simp)) hy
   . exact hk z (List.mem_append_right _ (List.mem_cons_of_mem _ hz))
theorem kW (L:ZV G ok num stp):∀(c:Nat) {h:List α},Vy stp h<=c->(∀x∈h,ok x)->ends num h=0->Qf (QC num h)=0->zF (mv G) h:=by
 intro c
 induction c using Nat.strongRecOn with
 | _ c ih=>
   intro h hc hk he hx
   refine .mk λb hb=>?_
   obtain⟨p,x,y,q,rfl,hy,rfl⟩:=(jJ G).mp hb
   have okx:=hk x (by simp)
   have hk':=Zo L hk rfl hy
   cases ex:num x with
   | none=>rw[Qc ex]at he;omega
   | some n=>
     rw[jw ex]at he
     rw[j7 ex]at hx
     rw[JZ]at hc
     have back:(∀m,num y=some m->n < m)->Won (mv G) (p++y::q):=λgt=>by
       obtain⟨z,hz,ez,lz⟩:=L.n3 okx ex hy gt
       refine .mk (b:=p++z::q) ((jJ G).mpr ⟨p,y,z,q,rfl,hz,rfl⟩) (ih (Vy stp (p++z::q)) (by rw[JZ];omega) (Nat.le_refl _) (Zo L hk' rfl hz) (by rw[jw ez];exact he) (by rw[j7 ez];exact hx))
     cases ey:num y with
     | none=>exact back λm h=>by rw[ey]at h;cases h
     | some k=>
       rcases Nat.lt_trichotomy k n with lt | rfl | gt
       . have ly:=L.n4 okx ex hy ey lt
         have pos:0 < Qf (QC num (p++y::q)):=by
           rw[j7 ey]
           refine Nat.pos_of_ne_zero λz=>?_
           have:=Zu (z.trans hx.symm)
           omega
         obtain⟨p',x',y',q',e',hy',⟨n',k',en,ek⟩,x0,l'⟩:=XJ L hk' pos
         have ce:Vy stp (p++y::q)=stp y+Vy stp (p++q):=JZ
         rw[e',JZ]at ce
         have ee:ends num (p++y::q)=0:=by rw[jw ey];exact he
         refine .mk (b:=p'++y'::q') ((jJ G).mpr ⟨p',x',y',q',e',hy',rfl⟩) (ih (Vy stp (p'++y'::q')) (by rw[JZ];omega) (Nat.le_refl _) (Zo L hk' e' hy') ?_ x0)
         rw[e',jw en]at ee
         rw[jw ek]
         exact ee
       . exact absurd ey (L.n2 okx ex hy)
       . exact back λm h=>by rw[ey]at h;cases h;exact gt
def Drawn (G:α->List α) (num:α->Option Nat) (h:List α):Prop:=(∃p x q,h=p++x::q/\num x=none/\ends num (p++q)=0/\∀y∈G x,num y≠some (Qf (QC num (p++q))))\/2<=ends num h
theorem ZP {h:List α}:0 < ends num h↔∃p x q,h=p++x::q/\num x=none:=by
 unfold ends
 constructor
 . intro c
   obtain⟨x,hx⟩:=List.exists_mem_of_length_pos c
   obtain⟨h1,h2⟩:=List.mem_filter.mp hx
   obtain⟨p,q,e⟩:=List.append_of_mem h1
   exact⟨p,x,q,e,by simpa using h2⟩
 . rintro⟨p,x,q,rfl,ex⟩
   exact List.length_pos_of_mem (a:=x) (List.mem_filter.mpr ⟨by simp,by rw[ex];rfl⟩)
theorem lack (L:ZV G ok num stp) {x:α} (okx:ok x) (ex:num x=none):∃m,(∀j,j < m->∃y∈G x,num y=some j)/\(∀y∈G x,num y≠some m)/\∃y∈G x,num y=none/\∀z∈G y,num z≠some m:=by
 have ⟨b,hb⟩:∃b,∀y∈G x,num y≠some b:=by
   refine⟨(QC num (G x)).sum+1,λy hy e=>?_⟩
   have:∀(l:List Nat) (n:Nat),n∈l->n<=l.sum:=by
     intro l
     induction l with
     | nil=>intro n h;cases h
     | cons a l ih=>
       intro n h
       rw[List.sum_cons]
       rcases List.mem_cons.mp h with rfl | h
       . omega
       . have:=ih n h;omega
   have q:(QC num (G x)).sum+1∈QC num (G x):=List.mem_filterMap.mpr ⟨y,hy,e⟩
   have:=this _ _ q
   omega
 have ⟨m,hm,least⟩:∃m,(∀y∈G x,num y≠some m)/\∀j,j < m->¬∀y∈G x,num y≠some j:=by
   induction b using Nat.strongRecOn with
   | _ b ih=>
     by_cases c:∃j,j < b/\∀y∈G x,num y≠some j
     . obtain⟨j,hj,h⟩:=c
       exact ih j hj h
     . exact⟨b,hb,λj hj h=>c ⟨j,hj,h⟩⟩
 have lo:∀j,j < m->∃y∈G x,num y=some j:=λj hj=>Classical.byContradiction λn=>least j hj λy hy e=>n ⟨y,hy,e⟩
 exact⟨m,lo,hm,L.e okx ex lo hm⟩
theorem wP (L:ZV G ok num stp) {h:List α} (hk:∀x∈h,ok x) (d:Drawn G num h):∃b∈mv G h,Drawn G num b:=by
 rcases d with ⟨p,x,q,rfl,ex,he,no⟩ | two
 . have okx:=hk x (by simp)
   obtain⟨m,lo,hm,y,hy,ey,ly⟩:=lack L okx ex
   rcases Nat.lt_trichotomy m (Qf (QC num (p++q))) with lt | e | gt
   . have hk':∀z∈p++q,ok z:=λz hz=>hk z (by
       rcases List.mem_append.mp hz with hz | hz
       . exact List.mem_append_left _ hz
       . exact List.mem_append_right _ (List.mem_cons_of_mem _ hz))
     obtain⟨p',x',y',q',e',hy',⟨n',k',en,ek⟩,x0,_⟩:=XJ L hk' lt
     have key:∃p2 q2,p++x::q∈[p++x::q]/\(p2++x::q2)∈mv G (p++x::q)/\p2++q2=p'++y'::q':=by
       rcases List.append_eq_append_iff.mp e' with ⟨r,e1,e2⟩ | ⟨r,e1,e2⟩
       ·
         refine⟨p,r++y'::q',by simp,(jJ G).mpr ⟨p++x::r,x',y',q',?_,hy',?_⟩,?_⟩
         . rw[e2];simp
         . simp
         . rw[e1];simp
       ·
         cases r with
         | nil=>
           simp at e1 e2
           refine⟨p,y'::q',by simp,(jJ G).mpr ⟨p++[x],x',y',q',?_,hy',?_⟩,?_⟩
           . rw[<-e2];simp
           . simp
           . rw[e1]
         | cons u r=>
           rw[List.cons_append]at e2
           obtain⟨rfl,e3⟩:=List.cons.inj e2
           refine⟨p'++y'::r,q,by simp,(jJ G).mpr ⟨p',x',y',r++x::q,?_,hy',?_⟩,?_⟩
           . rw[e1];simp
           . simp
           . rw[e3];simp
     obtain⟨p2,q2,_,hm2,e2⟩:=key
     refine⟨_,hm2,.inl ⟨p2,x,q2,rfl,ex,?_,?_⟩⟩
     . rw[e2,jw ek]
       rw[e',jw en]at he
       exact he
     . rw[e2,x0]
       exact hm
   . exact⟨p++y::q,(jJ G).mpr ⟨p,x,y,q,rfl,hy,rfl⟩,.inl ⟨p,y,q,rfl,ey,he,by rw[<-e];exact ly⟩⟩
   . obtain⟨y',hy',e'⟩:=lo _ gt
     exact absurd e' (no y' hy')
 . obtain⟨p,x,q,rfl,ex⟩:=ZP.mp (by omega:0 < ends num h)
   obtain⟨m,lo,hm,y,hy,ey,ly⟩:=lack L (hk x (by simp)) ex
   refine⟨p++y::q,(jJ G).mpr ⟨p,x,y,q,rfl,hy,rfl⟩,.inr ?_⟩
   rw[Qc ex]at two
   rw[Qc ey]
   exact two
def WI (num:α->Option Nat) (h:List α):Prop:=ends num h=0/\Qf (QC num h)=0
theorem vU (L:ZV G ok num stp) {h b:List α} (hk:∀x∈h,ok x) (z:WI num h) (m:b∈mv G h):¬WI num b:=λw=>by
 obtain⟨p,x,y,q,rfl,hy,rfl⟩:=(jJ G).mp m
 cases ex:num x with
 | none=>have:=z.1;rw[Qc ex]at this;omega
 | some n=>
   cases ey:num y with
   | none=>have:=w.1;rw[Qc ey]at this;omega
   | some k=>
     have h1:=z.2
     have h2:=w.2
     rw[j7 ex]at h1
     rw[j7 ey]at h2
     have:=Zu (h1.trans h2.symm)
     subst this
     exact L.n2 (hk x (by simp)) ex hy ey
theorem Uk {h b:List α} (d:Drawn G num h) (m:b∈mv G h):¬WI num b:=λw=>by
 obtain⟨p',u,y,q',rfl,hy,rfl⟩:=(jJ G).mp m
 cases eu:num u with
 | some n=>
   have pos:0 < ends num (p'++u::q'):=by
     rcases d with ⟨p,x,q,e,ex,_⟩ | two
     . exact ZP.mpr ⟨p,x,q,e,ex⟩
     . omega
   rw[jw eu]at pos
   have w1:=w.1
   cases ey:num y with
   | none=>rw[Qc ey]at w1;omega
   | some k=>rw[jw ey]at w1;omega
 | none=>
   have w1:=w.1
   cases ey:num y with
   | none=>rw[Qc ey]at w1;omega
   | some k=>
     rw[jw ey]at w1
     rcases d with ⟨p,x,q,e,ex,he,no⟩ | two
     . have hu:u∈p++x::q:=by rw[<-e];simp
       have ux:u=x:=Classical.byContradiction λne=>by
         have:u∈p++q:=by
           rcases List.mem_append.mp hu with h | h
           . exact List.mem_append_left _ h
           . rcases List.mem_cons.mp h with h | h
             . exact absurd h ne
             . exact List.mem_append_right _ h
         obtain⟨a,b,e2⟩:=List.append_of_mem this
         have:=ZP.mpr ⟨a,u,b,e2,eu⟩
         omega
       subst ux
       have en:QC num (p'++q')=QC num (p++q):=by rw[<-Vj (p:=p') (q:=q') eu,e,Vj eu]
       have w2:=w.2
       rw[j7 ey,en]at w2
       have:k=Qf (QC num (p++q)):=Zu (c:=Qf (QC num (p++q))) (by rw[w2,Nat.xor_self])
       exact no y hy (by rw[ey,this])
     . rw[Qc eu]at two
       omega
theorem kind (L:ZV G ok num stp) {h:List α} (hk:∀x∈h,ok x):WI num h\/Drawn G num h\/∃b∈mv G h,WI num b/\∀x∈b,ok x:=by
 rcases Nat.lt_trichotomy (ends num h) 1 with c | c | c
 . have he:ends num h=0:=by omega
   by_cases hx:Qf (QC num h)=0
   . exact .inl ⟨he,hx⟩
   . obtain⟨p,x,y,q,e,hy,⟨n,k,en,ek⟩,x0,_⟩:=XJ L hk (Nat.pos_of_ne_zero hx)
     refine .inr (.inr ⟨p++y::q,(jJ G).mpr ⟨p,x,y,q,e,hy,rfl⟩,⟨?_,x0⟩,Zo L hk e hy⟩)
     rw[e,jw en]at he
     rw[jw ek]
     exact he
 . obtain⟨p,x,q,rfl,ex⟩:=ZP.mp (by omega:0 < ends num h)
   rw[Qc ex]at c
   have he:ends num (p++q)=0:=by omega
   by_cases d:∃y∈G x,num y=some (Qf (QC num (p++q)))
   . obtain⟨y,hy,ey⟩:=d
     exact .inr (.inr ⟨p++y::q,(jJ G).mpr ⟨p,x,y,q,rfl,hy,rfl⟩,⟨by rw[jw ey];exact he,by rw[j7 ey,Nat.xor_self]⟩,Zo L hk rfl hy⟩)
   . exact .inr (.inl (.inl ⟨p,x,q,rfl,ex,he,λy hy e=>d ⟨y,hy,e⟩⟩))
 . exact .inr (.inl (.inr (by omega)))
mutual
theorem vp (L:ZV G ok num stp) {h:List α} (hk:∀x∈h,ok x):zF (mv G) h->WI num h
 | .mk w=>by
   rcases kind L hk with z | d | ⟨b,hb,z,kb⟩
   . exact z
   . obtain⟨b,hb,d'⟩:=wP L hk d
     have kb:∀x∈b,ok x:=by
       obtain⟨p,x,y,q,e,hy,rfl⟩:=(jJ G).mp hb
       exact Zo L hk e hy
     exact absurd d' (won_is L kb (w b hb)).1
   . exact absurd z (won_is L kb (w b hb)).2
theorem won_is (L:ZV G ok num stp) {h:List α} (hk:∀x∈h,ok x):Won (mv G) h->¬Drawn G num h/\¬WI num h
 | .mk (b:=b) m l=>by
   have kb:∀x∈b,ok x:=by
     obtain⟨p,x,y,q,e,hy,rfl⟩:=(jJ G).mp m
     exact Zo L hk e hy
   have z:=vp L kb l
   exact⟨λd=>Uk d m z,λz'=>vU L hk z' m z⟩
end
theorem xT (L:ZV G ok num stp) {h:List α} (hk:∀x∈h,ok x):zF (mv G) h↔WI num h:=⟨vp L hk,λz=>kW L _ (Nat.le_refl _) hk z.1 z.2⟩
end
section
variable {α:Type} [DecidableEq α] (G:α->List α) (N:List α)
abbrev Rs (α:Type):=List (Nat×List α)
def qC (rs:Rs α) (z:α):Option Nat:=(rs.find? λr=>decide (z∈r.2)).map (·.1)
def J4 (rs:Rs α) (z:α):Nat:=rs.findIdx λr=>decide (z∈r.2)
def ZT (f:α->Option Nat) (x:α) (n:Nat):Prop:=(∀j,j < n->∃y∈G x,f y=some j)/\(∀y∈G x,f y≠some n)/\∀y∈G x,f y=none->∃z∈G y,f z=some n
structure vQ (rs:Rs α) (n:Nat) (ns:List α):Prop where
 iff:∀x,x∈ns↔x∈N/\qC rs x=none/\ZT G (qC rs) x n
 sub:ns.Sublist N
inductive Jx (n:Nat):Rs α->Rs α->Prop
 | stop {rs:Rs α} (h:vQ G N rs n []):Jx n rs rs
 | more {rs rs':Rs α} {ns:List α} (h:vQ G N rs n ns) (ne:ns≠[]) (k:Jx n (rs++[(n,ns)]) rs'):Jx n rs rs'
inductive All:Nat->Rs α->Rs α->Prop
 | stop {n:Nat} {rs:Rs α} (h:vQ G N rs n []):All n rs rs
 | more {n:Nat} {rs rs' rs'':Rs α} (h:Jx G N n rs rs') (ne:rs'≠rs) (k:All (n+1) rs' rs''):All n rs rs''
variable {G N}
theorem Jh {rs:Rs α} {n:Nat} {ns:List α} {z:α}:qC (rs++[(n,ns)]) z=match qC rs z with | some m=>some m | none=>if z∈ns then some n else none:=by
 unfold qC
 rw[List.find?_append]
 cases e:rs.find? (λr=>decide (z∈r.2)) with
 | some r=>rfl
 | none=>
   by_cases c:z∈ns
   . simp [c]
   . simp [c]
theorem zY {rs:Rs α} {z:α}:qC rs z=none↔∀r∈rs,z∉r.2:=by
 unfold qC
 rw[Option.map_eq_none_iff,List.find?_eq_none]
 simp
theorem jN {rs:Rs α} {n m:Nat} {ns:List α} {z:α} (h:qC rs z=some m):J4 (rs++[(n,ns)]) z=J4 rs z/\J4 rs z < rs.length:=by
 have ex:∃r∈rs,z∈r.2:=Classical.byContradiction λno=>by
   have:=zY.mpr λr hr hz=>no ⟨r,hr,hz⟩
   rw[h]at this
   cases this
 obtain⟨r,hr,hz⟩:=ex
 have lt:J4 rs z < rs.length:=List.findIdx_lt_length_of_exists ⟨r,hr,decide_eq_true hz⟩
 refine⟨?_,lt⟩
 unfold J4 at lt ⊢
 rw[List.findIdx_append,if_pos lt]
theorem uU {rs:Rs α} {n:Nat} {ns:List α} {z:α} (h:qC rs z=none) (hz:z∈ns):J4 (rs++[(n,ns)]) z=rs.length:=by
 have e:J4 rs z=rs.length:=by
   unfold J4
   rw[List.findIdx_eq_length]
   intro r hr
   exact decide_eq_false (zY.mp h r hr)
 unfold J4 at e ⊢
 rw[List.findIdx_append,if_neg (by rw[e];exact Nat.lt_irrefl _)]
 simp [hz,List.findIdx_cons]
variable (G N) in
structure yr (rs:Rs α) (n:Nat):Prop where
 inN:∀{x m},qC rs x=some m->x∈N
 le:∀{x m},qC rs x=some m->m<=n
 n1:∀{x k m},qC rs x=some k->m < k->∃y∈G x,qC rs y=some m/\J4 rs y < J4 rs x
 n2:∀{x y k},qC rs x=some k->y∈G x->qC rs y≠some k
 n3:∀{x y k},qC rs x=some k->y∈G x->(∀m,qC rs y=some m->k < m)->∃z∈G y,qC rs z=some k/\J4 rs z < J4 rs x
 n4:∀{x y k m},qC rs x=some k->y∈G x->qC rs y=some m->m < k->J4 rs y < J4 rs x
theorem Qy {rs:Rs α} {n m:Nat} {ns:List α} {z:α} (h:qC rs z=some m):qC (rs++[(n,ns)]) z=some m:=by rw[Jh,h]
theorem wK {rs:Rs α} {n:Nat} {ns:List α} {z:α} (h:qC rs z=none) (hz:z∈ns):qC (rs++[(n,ns)]) z=some n:=by
 rw[Jh,h]
 exact if_pos hz
theorem qV {rs:Rs α} {n m:Nat} {ns:List α} {z:α} (h:qC (rs++[(n,ns)]) z=some m):(qC rs z=some m/\J4 (rs++[(n,ns)]) z=J4 rs z/\J4 rs z < rs.length)\/(qC rs z=none/\z∈ns/\m=n/\J4 (rs++[(n,ns)]) z=rs.length):=by
 cases e:qC rs z with
 | some k=>
   rw[Qy e]at h
   cases h
   exact .inl ⟨rfl,jN e⟩
 | none=>
   rw[Jh,e]at h
   by_cases c:z∈ns
   . have h:(if z∈ns then some n else none)=some m:=h
     rw[if_pos c]at h
     cases h
     exact .inr ⟨rfl,c,rfl,uU e c⟩
   . have h:(if z∈ns then some n else none)=some m:=h
     rw[if_neg c]at h
     cases h
theorem Ug {rs:Rs α} {n:Nat} {ns:List α} {z:α} (h:qC (rs++[(n,ns)]) z=none):qC rs z=none:=by
 cases e:qC rs z with
 | none=>rfl
 | some k=>rw[Qy e]at h;cases h
theorem yr.more {rs:Rs α} {n:Nat} {ns:List α} (v:yr G N rs n) (r:vQ G N rs n ns):yr G N (rs++[(n,ns)]) n:=by
 refine⟨λ{x m} h=>?_,λ{x m} h=>?_,λ{x k m} h lt=>?_,λ{x y k} h hy e=>?_,λ{x y k} h hy gt=>?_,λ{x y k m} h hy ey lt=>?_⟩
 . rcases qV h with ⟨h,_⟩ | ⟨_,h,_⟩
   . exact v.inN h
   . exact((r.iff x).mp h).1
 . rcases qV h with ⟨h,_⟩ | ⟨_,_,rfl,_⟩
   . exact v.le h
   . exact Nat.le_refl _
 . rcases qV h with ⟨h,es,_⟩ | ⟨h,hx,rfl,es⟩
   . obtain⟨y,hy,ey,ly⟩:=v.n1 h lt
     exact⟨y,hy,Qy ey,by rw[es,(jN ey).1];exact ly⟩
   . obtain⟨y,hy,ey⟩:=((r.iff x).mp hx).2.2.1 m lt
     exact⟨y,hy,Qy ey,by rw[es,(jN (n:=k) (ns:=ns) ey).1];exact(jN (n:=k) (ns:=ns) ey).2⟩
 . rcases qV h with ⟨h,_⟩ | ⟨h,hx,rfl,_⟩
   . rcases qV e with ⟨e,_⟩ | ⟨e1,hy',e2,_⟩
     . exact v.n2 h hy e
     . obtain⟨z,hz,ez,_⟩:=v.n3 h hy (λm q=>by rw[e1]at q;cases q)
       rw[e2]at ez
       exact((r.iff y).mp hy').2.2.2.1 z hz ez
   . have g:=((r.iff x).mp hx).2.2
     rcases qV e with ⟨e,_⟩ | ⟨e,hy',_,_⟩
     . exact g.2.1 y hy e
     . obtain⟨z,hz,ez⟩:=g.2.2 y hy e
       exact((r.iff y).mp hy').2.2.2.1 z hz ez
 . rcases qV h with ⟨h,es,_⟩ | ⟨h,hx,rfl,es⟩
   . obtain⟨z,hz,ez,lz⟩:=v.n3 h hy (λm q=>gt m (Qy q))
     exact⟨z,hz,Qy ez,by rw[es,(jN ez).1];exact lz⟩
   . have bare:qC rs y=none:=by
       cases e:qC rs y with
       | none=>rfl
       | some m=>
         have:=gt m (Qy e)
         have:=v.le e
         omega
     obtain⟨z,hz,ez⟩:=((r.iff x).mp hx).2.2.2.2 y hy bare
     exact⟨z,hz,Qy ez,by rw[es,(jN (n:=k) (ns:=ns) ez).1];exact(jN (n:=k) (ns:=ns) ez).2⟩
 . rcases qV h with ⟨h,es,_⟩ | ⟨h,hx,rfl,es⟩
   . rcases qV ey with ⟨ey,es',_⟩ | ⟨_,_,em,_⟩
     . rw[es,es']
       exact v.n4 h hy ey lt
     . have:=v.le h
       omega
   . rcases qV ey with ⟨ey,es',l'⟩ | ⟨_,_,rfl,_⟩
     . rw[es,es']
       exact l'
     . omega
variable (G N) in
def EP (rs:Rs α) (m:Nat):Prop:=∀x∈N,qC rs x=none->(∀j,j < m->∃y∈G x,qC rs y=some j)->(∀y∈G x,qC rs y≠some m)->∃y∈G x,qC rs y=none/\∀z∈G y,qC rs z≠some m
theorem Uj {rs:Rs α} {n:Nat} (r:vQ G N rs n []):EP G N rs n:=λx hx e lo hi=>Classical.byContradiction λno=>by
 refine absurd ((r.iff x).mpr ⟨hx,e,lo,hi,λy hy ey=>Classical.byContradiction λq=>no ⟨y,hy,ey,λz hz ez=>q ⟨z,hz,ez⟩⟩⟩) (by simp)
theorem KP {rs:Rs α} {n m:Nat} {ns:List α} (v:yr G N rs n) (r:vQ G N rs n ns) (lt:m < n) (h:EP G N rs m):EP G N (rs++[(n,ns)]) m:=λx hx e lo hi=>by
 have old:∀{z j},j<=m->qC (rs++[(n,ns)]) z=some j->qC rs z=some j:=λ{z j} hj ez=>by
   rcases qV ez with ⟨ez,_⟩ | ⟨_,_,rfl,_⟩
   . exact ez
   . omega
 obtain⟨y,hy,ey,ly⟩:=h x hx (Ug e) (λj hj=>let ⟨y,hy,ey⟩:=lo j hj;⟨y,hy,old (by omega) ey⟩) (λy hy ey=>hi y hy (Qy ey))
 refine⟨y,hy,?_,λz hz ez=>ly z hz (old (Nat.le_refl _) ez)⟩
 cases q:qC (rs++[(n,ns)]) y with
 | none=>rfl
 | some k=>
   rcases qV q with ⟨q,_⟩ | ⟨_,hy',rfl,_⟩
   . rw[ey]at q;cases q
   . obtain⟨z,hz,ez⟩:=((r.iff y).mp hy').2.2.1 m lt
     exact absurd ez (ly z hz)
theorem KH {n:Nat} {rs rs':Rs α} (g:Jx G N n rs rs'):yr G N rs n->(∀m,m < n->EP G N rs m)->yr G N rs' n/\∀m,m<=n->EP G N rs' m:=by
 induction g with
 | stop r=>exact λv h=>⟨v,λm hm=>by
     rcases Nat.lt_or_ge m n with c | c
     . exact h m c
     . have:m=n:=by omega
       subst this
       exact Uj r⟩
 | more r ne k ih=>exact λv h=>ih (v.more r) λm hm=>KP v r hm (h m hm)
theorem Nh (cl:∀x∈N,∀y∈G x,y∈N) {n:Nat} {rs rs':Rs α} (a:All G N n rs rs'):yr G N rs n->(∀x m,qC rs x=some m->m < n)->(∀m,m < n->EP G N rs m)->ZV G (·∈N) (qC rs') (J4 rs'):=by
 induction a with
 | @stop n rs r=>
   intro v lt h
   refine⟨λ{x y} hx hy=>cl x hx y hy,λ{x n m} _=>v.n1,λ{x y n} _=>v.n2,λ{x y n} _=>v.n3,λ{x y n m} _=>v.n4,λ{x m} hx e lo hi=>?_⟩
   rcases Nat.lt_trichotomy m n with c | rfl | c
   . exact h m c x hx e lo hi
   . exact Uj r x hx e lo hi
   . obtain⟨y,_,ey⟩:=lo n c
     have:=lt y n ey
     omega
 | @more n rs rs1 rs2 g ne k ih=>
   intro v lt h
   obtain⟨v',h'⟩:=KH g v h
   exact ih ⟨v'.inN,λ{x m} e=>Nat.le_succ_of_le (v'.le e),v'.n1,v'.n2,v'.n3,v'.n4⟩ (λx m e=>Nat.lt_succ_of_le (v'.le e)) λm hm=>h' m (by omega)
theorem UE (n:Nat):yr G N ([]:Rs α) n:=⟨λh=>(nomatch h),λh=>(nomatch h),λh=>(nomatch h),λh=>(nomatch h),λh=>(nomatch h),λh=>(nomatch h)⟩
theorem xY (cl:∀x∈N,∀y∈G x,y∈N) {rs:Rs α} (a:All G N 0 [] rs):ZV G (·∈N) (qC rs) (J4 rs):=Nh cl a (UE 0) (λx m h=>(nomatch h)) λm h=>absurd h (Nat.not_lt_zero m)
end
end MLab
set_option linter.all false
namespace MLab
section
variable {α:Type} (G:α->List α)
def Gq (b:α×Nat):List (α×Nat):=(G b.1).map (λy=>(y,b.2))++(List.range b.2).map λk=>(b.1,k)
def gS:α ⊕ Nat->List (α ⊕ Nat)
 | .inl z=>(G z).map .inl
 | .inr h=>(List.range h).map .inr
def YY (num:α->Option Nat):α ⊕ Nat->Option Nat
 | .inl z=>num z
 | .inr h=>some h
def MW (stp:α->Nat):α ⊕ Nat->Nat
 | .inl z=>stp z
 | .inr h=>h
def okS (ok:α->Prop):α ⊕ Nat->Prop
 | .inl z=>ok z
 | .inr _=>True
variable {G} {ok:α->Prop} {num:α->Option Nat} {stp:α->Nat}
theorem qap (L:ZV G ok num stp):ZV (gS G) (okS ok) (YY num) (MW stp) where
 cl:=λ{x y} hx hy=>by
   cases x with
   | inl z=>
     obtain⟨y',hy',rfl⟩:=List.mem_map.mp hy
     exact L.cl hx hy'
   | inr h=>
     obtain⟨k,_,rfl⟩:=List.mem_map.mp hy
     trivial
 n1:=λ{x n m} hx e lt=>by
   cases x with
   | inl z=>
     obtain⟨y,hy,ey,ly⟩:=L.n1 hx e lt
     exact⟨.inl y,List.mem_map.mpr ⟨y,hy,rfl⟩,ey,ly⟩
   | inr h=>
     obtain rfl:h=n:=Option.some.inj e
     exact⟨.inr m,List.mem_map.mpr ⟨m,List.mem_range.mpr lt,rfl⟩,rfl,lt⟩
 n2:=λ{x y n} hx e hy=>by
   cases x with
   | inl z=>
     obtain⟨y',hy',rfl⟩:=List.mem_map.mp hy
     exact L.n2 hx e hy'
   | inr h=>
     obtain⟨k,hk,rfl⟩:=List.mem_map.mp hy
     obtain rfl:h=n:=Option.some.inj e
     intro q
     have:k=h:=Option.some.inj q
     have:=List.mem_range.mp hk
     omega
 n3:=λ{x y n} hx e hy gt=>by
   cases x with
   | inl z=>
     obtain⟨y',hy',rfl⟩:=List.mem_map.mp hy
     obtain⟨u,hu,eu,lu⟩:=L.n3 hx e hy' gt
     exact⟨.inl u,List.mem_map.mpr ⟨u,hu,rfl⟩,eu,lu⟩
   | inr h=>
     obtain⟨k,hk,rfl⟩:=List.mem_map.mp hy
     obtain rfl:h=n:=Option.some.inj e
     have:=gt k rfl
     have:=List.mem_range.mp hk
     omega
 n4:=λ{x y n m} hx e hy ey lt=>by
   cases x with
   | inl z=>
     obtain⟨y',hy',rfl⟩:=List.mem_map.mp hy
     exact L.n4 hx e hy' ey lt
   | inr h=>
     obtain⟨k,hk,rfl⟩:=List.mem_map.mp hy
     exact List.mem_range.mp hk
 e:=λ{x m} hx e lo hi=>by
   cases x with
   | inl z=>
     obtain⟨y,hy,ey,ly⟩:=L.e hx e (λj hj=>by
       obtain⟨y,hy,ey⟩:=lo j hj
       obtain⟨y',hy',rfl⟩:=List.mem_map.mp hy
       exact⟨y',hy',ey⟩) (λy hy=>hi (.inl y) (List.mem_map.mpr ⟨y,hy,rfl⟩))
     refine⟨.inl y,List.mem_map.mpr ⟨y,hy,rfl⟩,ey,λu hu=>?_⟩
     obtain⟨u',hu',rfl⟩:=List.mem_map.mp hu
     exact ly u' hu'
   | inr h=>cases e
def two (b:α×Nat):List (α ⊕ Nat):=[.inl b.1,.inr b.2]
theorem XH {b:α×Nat} {c:List (α ⊕ Nat)}:c∈mv (gS G) (two b)↔∃b'∈Gq G b,c=two b':=by
 unfold two Gq
 rw[jJ]
 constructor
 . rintro⟨p,x,y,q,e,hy,rfl⟩
   cases p with
   | nil=>
     cases e
     obtain⟨y',hy',rfl⟩:=List.mem_map.mp hy
     exact⟨(y',b.2),List.mem_append_left _ (List.mem_map.mpr ⟨y',hy',rfl⟩),rfl⟩
   | cons u p=>
     cases p with
     | nil=>
       cases e
       obtain⟨k,hk,rfl⟩:=List.mem_map.mp hy
       exact⟨(b.1,k),List.mem_append_right _ (List.mem_map.mpr ⟨k,hk,rfl⟩),rfl⟩
     | cons v p=>cases p<;>cases e
 . rintro⟨b',hb,rfl⟩
   rcases List.mem_append.mp hb with hb | hb
   . obtain⟨y,hy,rfl⟩:=List.mem_map.mp hb
     exact⟨[],.inl b.1,.inl y,[.inr b.2],rfl,List.mem_map.mpr ⟨y,hy,rfl⟩,rfl⟩
   . obtain⟨k,hk,rfl⟩:=List.mem_map.mp hb
     exact⟨[.inl b.1],.inr b.2,.inr k,[],rfl,List.mem_map.mpr ⟨k,hk,rfl⟩,rfl⟩
mutual
theorem Vm {b:α×Nat}:zF (Gq G) b->zF (mv (gS G)) (two b)
 | .mk w=>.mk λc hc=>by
   obtain⟨b',hb,rfl⟩:=XH.mp hc
   exact won_two (w b' hb)
theorem won_two {b:α×Nat}:Won (Gq G) b->Won (mv (gS G)) (two b)
 | .mk (b:=b') m l=>.mk (XH.mpr ⟨b',m,rfl⟩) (Vm l)
end
mutual
theorem WQ {c:List (α ⊕ Nat)}:zF (mv (gS G)) c->∀b:α×Nat,c=two b->zF (Gq G) b
 | .mk w=>λb e=>.mk λb' hb=>two_won (w (two b') (by rw[e];exact XH.mpr ⟨b',hb,rfl⟩)) b' rfl
theorem two_won {c:List (α ⊕ Nat)}:Won (mv (gS G)) c->∀b:α×Nat,c=two b->Won (Gq G) b
 | .mk m l=>λb e=>by
   rw[e]at m
   obtain⟨b',hb,e'⟩:=XH.mp m
   exact .mk hb (WQ l b' e')
end
theorem zp (L:ZV G ok num stp) {z:α} {h:Nat} (hz:ok z):zF (Gq G) (z,h)↔num z=some h:=by
 have hk:∀x∈two (z,h),okS ok x:=λx hx=>by
   unfold two at hx
   rcases List.mem_cons.mp hx with rfl | hx
   . exact hz
   . rw[List.mem_singleton.mp hx];trivial
 have h1:zF (Gq G) (z,h)↔zF (mv (gS G)) (two (z,h)):=⟨Vm,λl=>WQ l _ rfl⟩
 rw[h1,xT (qap L) hk]
 unfold WI two ends QC
 cases e:num z with
 | none=>simp [YY,e]
 | some n=>
   simp only[List.filter_cons,List.filterMap_cons,YY,e]
   show (0=0/\n^^^ (h^^^0)=0)↔_
   rw[Nat.xor_zero]
   constructor
   . rintro⟨_,x⟩
     have:n=h:=Zu (c:=h) (by rw[x,Nat.xor_self])
     rw[this]
   . intro q
     cases q
     exact⟨rfl,Nat.xor_self _⟩
end
section
variable {β:Type} {M:β->List β}
end
end MLab
set_option linter.all false
namespace MLab
section
variable {α:Type} [DecidableEq α] {G:α->List α} {N:List α}
theorem zI:∀{l m:List α},l.Sublist m->m.Nodup->l=m.filter λx=>decide (x∈l)
 | _,_,.slnil,_=>rfl
 | l,a::m,.cons _ h,nd=>by
   rw[List.nodup_cons]at nd
   have na:a∉l:=λz=>nd.1 (h.subset z)
   rw[List.filter_cons,if_neg (by simpa using na)]
   exact zI h nd.2
 | a::l,_::m,.cons₂ _ h,nd=>by
   rw[List.nodup_cons]at nd
   rw[List.filter_cons,if_pos (by simp)]
   congr 1
   have e:=zI h nd.2
   refine e.trans (List.filter_congr λx hx=>?_)
   have ne:x≠a:=λz=>nd.1 (z▸hx)
   simp [ne]
theorem vQ.uniq (nd:N.Nodup) {rs:Rs α} {n:Nat} {ns ms:List α} (a:vQ G N rs n ns) (b:vQ G N rs n ms):ns=ms:=by
 rw[zI a.sub nd,zI b.sub nd]
 exact List.filter_congr λx _=>decide_eq_decide.mpr ((a.iff x).trans (b.iff x).symm)
theorem Jx.uniq (nd:N.Nodup) {n:Nat} {rs a b:Rs α} (h:Jx G N n rs a):Jx G N n rs b->a=b:=by
 induction h with
 | stop r=>
   intro k
   cases k with
   | stop _=>rfl
   | more r' ne _=>exact absurd (r'.uniq nd r) ne
 | more r ne k ih=>
   intro k'
   cases k' with
   | stop r'=>exact absurd (r.uniq nd r') ne
   | more r' _ k2=>
     have:=r.uniq nd r'
     subst this
     exact ih k2
theorem All.uniq (nd:N.Nodup) {n:Nat} {rs a b:Rs α} (h:All G N n rs a):All G N n rs b->a=b:=by
 induction h with
 | stop r=>
   intro k
   cases k with
   | stop _=>rfl
   | more g ne _=>
     have:=g.uniq nd (Jx.stop r)
     exact absurd this ne
 | more g ne k ih=>
   intro k'
   cases k' with
   | stop r'=>exact absurd (g.uniq nd (Jx.stop r')) ne
   | more g' _ k2=>
     have:=g.uniq nd g'
     subst this
     exact ih k2
variable (G N) in
inductive Nj:Nat->Rs α->Prop
 | nil:Nj 0 []
 | more {n:Nat} {rs rs':Rs α} (h:Nj n rs) (g:Jx G N n rs rs'):Nj (n+1) rs'
end
end MLab
set_option linter.all false
namespace MLab
section
variable {α:Type} [DecidableEq α] {G:α->List α} {N:List α}
variable (G N) in
def SR (rs:Rs α) (n:Nat) (ns:List α):Prop:=∀x∈ns,x∈N/\qC rs x=none/\ZT G (qC rs) x n
theorem yr.one {rs:Rs α} {n:Nat} {ns:List α} (v:yr G N rs n) (r:SR G N rs n ns):yr G N (rs++[(n,ns)]) n:=by
 refine⟨λ{x m} h=>?_,λ{x m} h=>?_,λ{x k m} h lt=>?_,λ{x y k} h hy e=>?_,λ{x y k} h hy gt=>?_,λ{x y k m} h hy ey lt=>?_⟩
 . rcases qV h with ⟨h,_⟩ | ⟨_,h,_⟩
   . exact v.inN h
   . exact(r x h).1
 . rcases qV h with ⟨h,_⟩ | ⟨_,_,rfl,_⟩
   . exact v.le h
   . exact Nat.le_refl _
 . rcases qV h with ⟨h,es,_⟩ | ⟨h,hx,rfl,es⟩
   . obtain⟨y,hy,ey,ly⟩:=v.n1 h lt
     exact⟨y,hy,Qy ey,by rw[es,(jN ey).1];exact ly⟩
   . obtain⟨y,hy,ey⟩:=(r x hx).2.2.1 m lt
     exact⟨y,hy,Qy ey,by rw[es,(jN (n:=k) (ns:=ns) ey).1];exact(jN (n:=k) (ns:=ns) ey).2⟩
 . rcases qV h with ⟨h,_⟩ | ⟨h,hx,rfl,_⟩
   . rcases qV e with ⟨e,_⟩ | ⟨e1,hy',e2,_⟩
     . exact v.n2 h hy e
     . obtain⟨z,hz,ez,_⟩:=v.n3 h hy (λm q=>by rw[e1]at q;cases q)
       rw[e2]at ez
       exact(r y hy').2.2.2.1 z hz ez
   . have g:=(r x hx).2.2
     rcases qV e with ⟨e,_⟩ | ⟨e,hy',_,_⟩
     . exact g.2.1 y hy e
     . obtain⟨z,hz,ez⟩:=g.2.2 y hy e
       exact(r y hy').2.2.2.1 z hz ez
 . rcases qV h with ⟨h,es,_⟩ | ⟨h,hx,rfl,es⟩
   . obtain⟨z,hz,ez,lz⟩:=v.n3 h hy (λm q=>gt m (Qy q))
     exact⟨z,hz,Qy ez,by rw[es,(jN ez).1];exact lz⟩
   . have bare:qC rs y=none:=by
       cases e:qC rs y with
       | none=>rfl
       | some m=>
         have:=gt m (Qy e)
         have:=v.le e
         omega
     obtain⟨z,hz,ez⟩:=(r x hx).2.2.2.2 y hy bare
     exact⟨z,hz,Qy ez,by rw[es,(jN (n:=k) (ns:=ns) ez).1];exact(jN (n:=k) (ns:=ns) ez).2⟩
 . rcases qV h with ⟨h,es,_⟩ | ⟨h,hx,rfl,es⟩
   . rcases qV ey with ⟨ey,es',_⟩ | ⟨_,_,em,_⟩
     . rw[es,es']
       exact v.n4 h hy ey lt
     . have:=v.le h
       omega
   . rcases qV ey with ⟨ey,es',l'⟩ | ⟨_,_,rfl,_⟩
     . rw[es,es']
       exact l'
     . omega
theorem Nb {rs:Rs α} {n m:Nat} {ns:List α} (v:yr G N rs n) (r:SR G N rs n ns) (lt:m < n) (h:EP G N rs m):EP G N (rs++[(n,ns)]) m:=λx hx e lo hi=>by
 have old:∀{z j},j<=m->qC (rs++[(n,ns)]) z=some j->qC rs z=some j:=λ{z j} hj ez=>by
   rcases qV ez with ⟨ez,_⟩ | ⟨_,_,rfl,_⟩
   . exact ez
   . omega
 obtain⟨y,hy,ey,ly⟩:=h x hx (Ug e) (λj hj=>let ⟨y,hy,ey⟩:=lo j hj;⟨y,hy,old (by omega) ey⟩) (λy hy ey=>hi y hy (Qy ey))
 refine⟨y,hy,?_,λz hz ez=>ly z hz (old (Nat.le_refl _) ez)⟩
 cases q:qC (rs++[(n,ns)]) y with
 | none=>rfl
 | some k=>
   rcases qV q with ⟨q,_⟩ | ⟨_,hy',rfl,_⟩
   . rw[ey]at q;cases q
   . obtain⟨z,hz,ez⟩:=(r y hy').2.2.1 m lt
     exact absurd ez (ly z hz)
variable (G N) in
structure Pt (rs:Rs α) (n:Nat):Prop where
 val:yr G N rs n
 ep:∀m,m < n->EP G N rs m
theorem Pt.nil:Pt G N ([]:Rs α) 0:=⟨UE 0,λm h=>absurd h (Nat.not_lt_zero m)⟩
theorem Pt.one {rs:Rs α} {n:Nat} {ns:List α} (p:Pt G N rs n) (r:SR G N rs n ns):Pt G N (rs++[(n,ns)]) n:=⟨p.val.one r,λm h=>Nb p.val r h (p.ep m h)⟩
theorem Pt.next {rs:Rs α} {n:Nat} (p:Pt G N rs n) (no:∀x∈N,qC rs x=none->¬ZT G (qC rs) x n):Pt G N rs (n+1):=by
 refine⟨⟨p.val.inN,λe=>Nat.le_succ_of_le (p.val.le e),p.val.n1,p.val.n2,p.val.n3,p.val.n4⟩,λm h=>?_⟩
 rcases Nat.lt_or_ge m n with c | c
 . exact p.ep m c
 . have:m=n:=by omega
   subst this
   exact Uj ⟨λx=>⟨λh=>(nomatch h),λ⟨a,b,c⟩=>absurd c (no x a b)⟩,List.nil_sublist _⟩
theorem Pt.lab (cl:∀x∈N,∀y∈G x,y∈N) {rs:Rs α} {n:Nat} (p:Pt G N rs n) (big:∀x∈N,qC rs x=none->¬∀j,j < n->∃y∈G x,qC rs y=some j):ZV G (·∈N) (qC rs) (J4 rs):=by
 refine⟨λ{x y} hx hy=>cl x hx y hy,λ{x n m} _=>p.val.n1,λ{x y n} _=>p.val.n2,λ{x y n} _=>p.val.n3,λ{x y n m} _=>p.val.n4,λ{x m} hx e lo hi=>?_⟩
 rcases Nat.lt_or_ge m n with c | c
 . exact p.ep m c x hx e lo hi
 . exact absurd (λj hj=>lo j (by omega)) (big x hx e)
theorem RL {ok:α->Prop} {num num':α->Option Nat} {stp stp':α->Nat} (L:ZV G ok num stp) (L':ZV G ok num' stp') {x:α} (hx:ok x):num x=num' x:=by
 have h:∀h,num x=some h↔num' x=some h:=λh=>(zp L hx).symm.trans (zp L' hx)
 cases e:num x with
 | some n=>exact((h n).mp e).symm
 | none=>
   cases e':num' x with
   | none=>rfl
   | some n=>rw[(h n).mpr e']at e;cases e
end
end MLab
set_option Elab.async false
set_option linter.all false
set_option maxRecDepth 100000
set_option maxHeartbeats 4000000
namespace Rh
open PySem L2
def top (i:Nat):Stmt:=PySem.Challenge.pw_ringheaps_k81_places_alike_or_parted.main.body.getD i (.Pass ⟨0,0,0,0⟩)
abbrev ZA:Stmt:=top 17
abbrev U9:Stmt:=top 55
abbrev zN:Stmt:=top 56
abbrev Yg:Stmt:=top 57
abbrev Yj:Stmt:=top 58
abbrev Ym:Stmt:=top 59
abbrev U4:Stmt:=top 60
abbrev Wd:Stmt:=top 67
end Rh
namespace Rh
open PySem L2 PyProof.Rows
structure jq (K:PySem.W.Frag) (mg:Str->Option Value) (x:Str) (st:Stmt) (ps:List Str) (f:Addr) (fd:FuncData):Prop where
 fn:jM K x x st f fd
 ns:mg x=some (.ref f)
 bi:jx K fd ps []
theorem qJ {X:Cx} {x:Str} {st:Stmt} {ps:List Str} {f:Addr} {fd:FuncData} {k:Nat} {sp:Sp} {e:Expr} {es:List Expr} {t:TA} {p pos:Pos} (h:jq X.K X.mg x st ps f fd) (G:qm X.prog X.w X.K X.mg X.base qO k f fd ps sp) (hr:qW k X.A)
   (hg:Gl X x) (ha:JA X (e::es) t) (hdb:(x==("__debug__":Str))=false:=by decide) (he:starEach (e::es) X.env=(false,eval e X.env)::starEach es X.env:=by rfl) (hpl:(backTo pos (starEach es X.env)).any (·.1)=false:=by rfl):
   JE X (.Call (.Name x p) (e::es) [] pos) (zj sp [] E0 t):=.of (vf G hr hg h.ns h.fn.kp h.bi .nil QL ha.to hdb he hpl)
theorem ql {H:Hp} {b p:Addr} {o o':HO} (h:H b=some o) (hp:H p=none):upd H p o' b=some o:=by
 rw[qh (qo h hp)]
 exact h
theorem qk {H:Hp} {p:Addr} {o:HO} (hp:H p=none):Same H (upd H p o):=λb u h=>ql h hp
theorem Same.upd {H H':Hp} {p:Addr} {o:HO} (s:Same H H') (hp:H p=none):Same H (upd H' p o):=λb u h=>by
 rw[qh (qo h hp)]
 exact s b u h
def src (n s t:Int):List (qE×V):=[(Sum.inr "number",.int n),(Sum.inr "seed",.int s),(Sum.inr "turn",.int t)]
theorem nns:¬(Str.ofString "number")=Str.ofString "seed":=by decide+kernel
theorem nnt:¬(Str.ofString "number")=Str.ofString "turn":=by decide+kernel
theorem nst:¬(Str.ofString "seed")=Str.ofString "turn":=by decide+kernel
theorem nsn:¬(Str.ofString "seed")=Str.ofString "number":=by decide+kernel
theorem ntn:¬(Str.ofString "turn")=Str.ofString "number":=by decide+kernel
theorem nts:¬(Str.ofString "turn")=Str.ofString "seed":=by decide+kernel
theorem wy {a b:Str} (h:¬a=b):¬(Sum.inr a:qE)=Sum.inr b:=λe=>h (Sum.inr.inj e)
section
variable {H:Hp} {d:Addr} {n s t:Int}
theorem gN (h:H d=some (.dK (src n s t))):jW H d (.str "number") (some (.int n)):=by
 have e:ja (src n s t) (Sum.inr "number":qE)=some (.int n):=jk rfl
 have q:=jW.k (k:=(Sum.inr "number":qE)) h
 rw[e]at q
 exact q
theorem gS (h:H d=some (.dK (src n s t))):jW H d (.str "seed") (some (.int s)):=by
 have e:ja (src n s t) (Sum.inr "seed":qE)=some (.int s):=(jl (wy nns)).trans (jk rfl)
 have q:=jW.k (k:=(Sum.inr "seed":qE)) h
 rw[e]at q
 exact q
theorem gT (h:H d=some (.dK (src n s t))):jW H d (.str "turn") (some (.int t)):=by
 have e:ja (src n s t) (Sum.inr "turn":qE)=some (.int t):=(jl (wy nnt)).trans ((jl (wy nst)).trans (jk rfl))
 have q:=jW.k (k:=(Sum.inr "turn":qE)) h
 rw[e]at q
 exact q
theorem NL:(src n s t).length < sizeLine:=qp (by show 3<=1000;decide)
theorem pN (h:H d=some (.dK (src n s t))) (v:Int):QR H d (.str "number") (.int v) (upd H d (.dK (src v s t))):=by
 have e:jA (src n s t) (Sum.inr "number":qE) (.int v)=src v s t:=by
   unfold jA src
   simp [nsn,ntn]
 have q:=QR.k (k:=(Sum.inr "number":qE)) (v:=.int v) h NL
 rw[e]at q
 exact q
theorem pT (h:H d=some (.dK (src n s t))) (v:Int):QR H d (.str "turn") (.int v) (upd H d (.dK (src n s v))):=by
 have e:jA (src n s t) (Sum.inr "turn":qE) (.int v)=src n s v:=by
   unfold jA src
   simp [nnt,nst]
 have q:=QR.k (k:=(Sum.inr "turn":qE)) (v:=.int v) h NL
 rw[e]at q
 exact q
end
def Ya:Sp:=λvs H Q _=>∃(d:Addr) (m n s t:Int),vs=[.ref d,.int m]/\H d=some (.dK (src n s t))/\0 < m/\m.natAbs < 2^200/\∀r n' t',0<=r->r < m->Q (.int r) (upd H d (.dK (src n' s t')))
def WY:Sp:=λvs H Q _=>∃c:Int,vs=[.int c]/\∀d n s,H d=none->Q (.ref d) (upd H d (.dK (src n s 0)))
def yQ (K:PySem.W.Frag):Sp:=λvs H Q _=>∃(a:Addr) (ns:List Int) (k:Int),vs=[.ref a,.int k]/\SqL K H a (ns.map V.int)/\0<=k/\∀v,Q (.int v) H
section
variable {P:Program} {w:World} {K:PySem.W.Frag} {mg:Str->Option Value} {base:Heap}
theorem X8:qr ["_law_source_here","_law_many","_law_digit","_law_number"] ["_law_source_here","_law_many"] (qj Yg):=⟨rfl,rfl,rfl,by decide+kernel,rfl,by decide+kernel,by decide+kernel⟩
theorem zQ {f:Addr} {fd:FuncData} (F:jM K "_law_take" "_law_take" Yg f fd):qm P w K mg base qO 1 f fd ["_law_source_here","_law_many"] Ya:=by
 refine F.okJ X8 (λvs H Q E h=>?_) (λcdv A outer s H vs Q E hr h=>?_)
 . obtain⟨d,m,n,sd,t,rfl,_⟩:=h
   rfl
 . obtain⟨d,m,n,sd,t,rfl,hd,m0,m1,k⟩:=h
   have hu:=jV hr
   refine⟨_,qe (qM (qu zo (qL hu (jv 0) qI (λ_ _=>rfl)) qi (qy _))
       (qe (qw (i:=2) X8.nd rfl (Or.inl rfl) (qN QZ (qL hu (jv 0) qI (λ_ _=>rfl)) (jv 1)))
       (qe (je hu (jv 0) qI (qN xq (qL hu (jv 0) qI (λ_ _=>rfl)) (jv 1)) rfl)
       (qg (qv (jv 2))))) qz)
     (qe (je hu (jv 0) qI (qN Q0 (qL hu (jv 0) qI (λ_ _=>rfl)) qi) rfl)
     (qe (qw (i:=3) X8.nd rfl (Or.inl rfl) (qN QZ (qN Jn (qN Q0 (qL hu (jv 0) qI (λ_ _=>rfl)) (qN Jn qi (qL hu (jv 0) qI (λ_ _=>rfl)))) qi) qi))
     (qe (qw (i:=3) X8.nd rfl (Or.inl rfl) (qN QZ (qN Jn (jv 3) (jv 3)) qi))
     (qg (qv (qN QZ (qN Kd (qN QZ (qN Jn (qN Q0 (jv 3) (qL hu (jv 0) qI (λ_ _=>rfl))) (qN Q0 (jv 3) qi)) qi) qi) (jv 1))))))),?_⟩
   refine⟨_,rfl,d,_,rfl,gN hd,_,_,rfl,rfl,_,rfl,?_⟩
   refine k6 (λ_=>?_) (λ_=>?_)
   . refine⟨_,rfl,d,_,rfl,gN hd,_,rfl,_,_,rfl,rfl,m0,?_⟩
     refine⟨_,rfl,d,_,rfl,gN hd,_,rfl,_,_,rfl,rfl,⟨m0,m1⟩,_,rfl,d,_,rfl,pN hd _,?_⟩
     exact⟨_,rfl,k _ _ _ (Int.emod_nonneg _ (by omega)) (Int.emod_lt_of_pos _ m0)⟩
   . refine⟨_,rfl,d,_,rfl,gT hd,_,_,rfl,rfl,_,rfl,d,_,rfl,pT hd _,?_⟩
     have h1:upd H d (.dK (src n sd (t+1))) d=some (.dK (src n sd (t+1))):=qd
     refine⟨_,rfl,d,_,rfl,gS h1,_,rfl,d,_,rfl,gT h1,_,_,rfl,rfl,.inl ⟨by decide,by decide⟩,_,_,rfl,rfl,_,_,rfl,rfl,.inr ⟨by decide,by decide⟩,_,_,rfl,rfl,(by show (0:Int) < 2147483647;decide),?_⟩
     generalize ha:((sd+7919*(t+1))*48271) % 2147483647=x
     have x0:0<=x:=by rw[<-ha];exact Int.emod_nonneg _ (by decide)
     have x1:x < 2147483647:=by rw[<-ha];exact Int.emod_lt_of_pos _ (by decide)
     refine⟨_,rfl,_,rfl,_,_,rfl,rfl,.inl ⟨by omega,by omega⟩,_,_,rfl,rfl,(by show (0:Int) < 2147483629;decide),?_⟩
     generalize hb:(x*x) % 2147483629=y
     have y0:0<=y:=by rw[<-hb];exact Int.emod_nonneg _ (by decide)
     have y1:y < 2147483629:=by rw[<-hb];exact Int.emod_lt_of_pos _ (by decide)
     refine⟨_,rfl,_,rfl,d,_,rfl,gT h1,_,_,rfl,rfl,_,rfl,_,_,rfl,rfl,_,_,rfl,rfl,.inr ⟨by omega,by omega⟩,_,_,rfl,rfl,(by show (0:Int) < 2147483587;decide),_,_,rfl,rfl,⟨by decide,by decide⟩,_,rfl,_,_,rfl,rfl,m0,?_⟩
     exact k _ _ _ (Int.emod_nonneg _ (by omega)) (Int.emod_lt_of_pos _ m0)
end
end Rh
namespace Rh
open PySem L2 PyProof.Rows
structure QJ (mg:Str->Option Value):Prop where
 len:mg "len"=none
 max:mg "max"=none
 min:mg "min"=none
 int:mg "int"=none
 rng:mg "range"=none
theorem kU (n s t:Int):Qu [] (src n s t)=src n s t:=by
 unfold Qu src
 simp only[List.foldl_cons,List.foldl_nil]
 unfold jA
 simp [nns,nnt,nst,nsn,ntn,nts]
section
variable {P:Program} {w:World} {K:PySem.W.Frag} {mg:Str->Option Value} {base:Heap}
theorem yV:qr ["_law_cell"] ["_law_cell"] (qj zN):=⟨rfl,rfl,rfl,by decide+kernel,rfl,by decide+kernel,by decide+kernel⟩
theorem kK {f:Addr} {fd:FuncData} (F:jM K "_law_source" "_law_source" zN f fd) (B:QJ mg):qm P w K mg base qO 1 f fd ["_law_cell"] WY:=by
 refine F.okJ yV (λvs H Q E h=>?_) (λcdv A outer s H vs Q E hr h=>?_)
 . obtain⟨c,rfl,_⟩:=h
   rfl
 . obtain⟨c,rfl,k⟩:=h
   refine⟨_,qg (qv (KE
     (YH qI (qN Jn (qA (Xq rfl) (by rfl) B.max boot_max (qb qi (qb (jv 0) qf)))
       (j4 Xr (by rfl) B.int boot_int (qb (ju xp (jv 0) (qN Ru qi qi) (qy _)) qf)))
     (YH qI (qN QZ (jv 0) qi) (YH qI qi Kz))) rfl rfl (by simp) (by decide))),?_⟩
   intro p hp
   refine⟨_,rfl,_,_,rfl,_,rfl,_,_,rfl,rfl,⟨by decide,by decide,by decide⟩,_,_,rfl,rfl,.inr ⟨_,rfl,_,_,rfl,rfl,.inr ?_,_,rfl,_,_,rfl,rfl,(by show (0:Int) < 2147483629;decide),?_⟩⟩
   . split<;>exact⟨by decide,by decide⟩
   . refine⟨qd,src _ _ 0,rfl,(by show 3<=15;decide),?_⟩
     rw[kU,jr]
     exact k p _ _ hp
theorem Rm:qr ["_law_script","_law_k"] ["_law_script","_law_k"] (qj U9):=⟨rfl,rfl,rfl,by decide+kernel,rfl,by decide+kernel,by decide+kernel⟩
theorem Kp {f:Addr} {fd:FuncData} (F:jM K "_law_cell_at" "_law_cell_at" U9 f fd) (B:QJ mg):qm P w K mg base qO 1 f fd ["_law_script","_law_k"] (yQ K):=by
 refine F.okJ Rm (λvs H Q E h=>?_) (λcdv A outer s H vs Q E hr h=>?_)
 . obtain⟨a,ns,k,rfl,_⟩:=h
   rfl
 . obtain⟨a,ns,k,rfl,hS,k0,q⟩:=h
   refine⟨_,qe (qM (qu QN (jv 1) (qA qP (by rfl) B.len boot_len (qb (jv 0) qf)) (qy _))
       (qg (qv (qZ jY (jv 0) (jv 1) (λ_ _=>rfl)))) qz)
     (qg (qv (qN Q0 (qN Jn qi (jv 1)) qi))),?_⟩
   refine⟨_,rfl,_,rfl,a,_,rfl,.inl hS,_,_,rfl,rfl,_,rfl,?_⟩
   refine k6 (λh=>?_) (λ_=>?_)
   . have h1:k < ((ns.map V.int).length:Int):=of_decide_eq_true h
     rw[List.length_map]at h1
     have h2:k.toNat < ns.length:=by omega
     have h3:(ns.map V.int)[k.toNat]?=some (V.int ns[k.toNat]):=by rw[List.getElem?_map,List.getElem?_eq_getElem h2];rfl
     have h4:k=((k.toNat:Nat):Int):=by omega
     refine⟨_,rfl,_,rfl,a,_,k,V.int ns[k.toNat],rfl,rfl,hS,?_,q _⟩
     have h5:=Zb h3
     rw[<-h4]at h5
     exact h5
   . exact⟨_,rfl,_,_,rfl,rfl,.inl ⟨by decide,by decide⟩,_,_,rfl,rfl,q _⟩
end
end Rh
set_option Elab.async false
set_option linter.all false
set_option maxRecDepth 100000
set_option maxHeartbeats 4000000
namespace Rh
open PySem L2 PyProof.Rows
def Fr (H:Hp) (d:Addr) (H':Hp):Prop:=∀b o,H b=some o->b≠d->H' b=some o
theorem Fr.refl {H:Hp} {d:Addr}:Fr H d H:=λ_ _ h _=>h
theorem Fr.at_d {H H':Hp} {d:Addr} {o:HO} (h:Fr H d H'):Fr H d (upd H' d o):=λb u hb hn=>by
 rw[qh hn]
 exact h b u hb hn
theorem Fr.new {H H':Hp} {d p:Addr} {o:HO} (h:Fr H d H') (hp:H' p=none):Fr H d (upd H' p o):=λb u hb hn=>ql (h b u hb hn) hp
theorem Fr.own {H H':Hp} {d p:Addr} {o:HO} (h:Fr H d H') (hp:H p=none):Fr H d (upd H' p o):=λb u hb hn=>by
 rw[qh (qo hb hp)]
 exact h b u hb hn
theorem Fr.trans {H H' H'':Hp} {d:Addr} (h:Fr H d H') (k:Fr H' d H''):Fr H d H'':=λb u hb hn=>k b u (h b u hb hn) hn
theorem Fr.fresh {H H':Hp} {d p:Addr} {o:HO} (h:Fr H d H') (hd:H' d=some o) (hp:H' p=none):H p=none:=by
 cases e:H p with
 | none=>rfl
 | some u=>
   by_cases n:p=d
   . subst n
     rw[hd]at hp
     cases hp
   . rw[h p u e n]at hp
     cases hp
def jB (c:Nat):Bool:=decide (97<=c)&&decide (c<=122)
def jo (z:Str):Bool:=(decide (1<=z.length)&&decide (z.length<=8))&&z.cps.toList.all jB
def vP:Str:="abcdefghijklmnopqrstuvwxyz"
theorem XA:vP.cps.toList=[97,98,99,100,101,102,103,104,105,106,107,108,109,110,111,112,113,114,115,116,117,118,119,120,121,122]:=by decide+kernel
theorem wW:vP.cps.toList=(List.range 26).map (97+·):=by rw[XA];rfl
theorem vO:vP.length<=sizeLine:=by
 show vP.cps.size<=sizeLine
 rw[<-Array.length_toList,XA]
 decide
theorem wY {r:Int} (h0:0<=r) (h1:r < 26):vM vP.cps.toList r=some (97+r.toNat):=by
 have h2:vP.cps.toList[r.toNat]?=some (97+r.toNat):=by
   rw[wW,List.getElem?_map,List.getElem?_range (by omega)]
   rfl
 have h4:=Zb h2
 have h5:r=((r.toNat:Nat):Int):=by omega
 rw[<-h5]at h4
 exact h4
theorem Xl {r:Int} (h0:0<=r) (h1:r < 26):jB (97+r.toNat)=true:=by
 unfold jB
 rw[decide_eq_true (by omega:97<=97+r.toNat),decide_eq_true (by omega:97+r.toNat<=122)]
 rfl
theorem RT (ws:List Nat):(Txt.join (Str.ofString "") (ws.map λk=>(⟨#[k]⟩:Str))).cps.toList=ws:=by
 show (Builtin.Str.glued (Str.ofString "") _).cps.toList=_
 rw[StrLaws.glued_eq_join]
 have e:(Str.ofString "")=⟨#[]⟩:=by decide+kernel
 rw[e,PyProof.Rows.join_ones]
theorem k9 {z:Str} {A B:List Nat} {c:Nat} (e:z.cps.toList=A++[c]++B) (hA:A.all jB=true) (hc:jB c=true) (hB:B.all jB=true) (hl:A.length+B.length<=7):jo z=true:=by
 have l:z.length=A.length+1+B.length:=by
   show z.cps.size=_
   rw[<-Array.length_toList,e]
   simp
   omega
 unfold jo
 rw[decide_eq_true (by omega:1<=z.length),decide_eq_true (by omega:z.length<=8),e,List.all_append,List.all_append,hA,hB]
 simp [hc]
def vm (f s:Int) (k:Nat):Nat:=97+((f+s*(k:Int)) % 26).toNat
theorem Kt:∀s∈[(1:Int),3,5,7,9,11],∀k,k < 14->∀j,j < 14->(s*((k:Nat):Int) - s*((j:Nat):Int)) % 26=0->k=j:=by decide+kernel
theorem Ks {f s:Int} {k j:Nat} (hs:s=1\/s=3\/s=5\/s=7\/s=9\/s=11) (hk:k < 14) (hj:j < 14) (h:vm f s k=vm f s j):k=j:=by
 unfold vm at h
 refine Kt s (by simpa using hs) k hk j hj ?_
 generalize s*(k:Int)=x at h ⊢
 generalize s*(j:Int)=y at h ⊢
 omega
def QY (A:List Nat) (f s:Int) (zs:List Str):Prop:=∀j z,zs[j]?=some z->∃B,z.cps.toList=A++[vm f s j]++B/\B.all jB=true/\A.length+B.length<=7
theorem QY.snoc {A:List Nat} {f s:Int} {zs:List Str} (h:QY A f s zs) {z:Str} {B:List Nat} (e:z.cps.toList=A++[vm f s zs.length]++B) (hB:B.all jB=true) (hl:A.length+B.length<=7):QY A f s (zs++[z]):=by
 intro j y hy
 by_cases hj:j < zs.length
 . rw[List.getElem?_append_left hj]at hy
   exact h j y hy
 . have hj':j=zs.length:=by
     have:=(List.getElem?_eq_some_iff.mp hy).1
     rw[List.length_append,List.length_singleton]at this
     omega
   subst hj'
   rw[List.getElem?_append_right (Nat.le_refl _),Nat.sub_self]at hy
   obtain rfl:=(Option.some.inj hy).symm
   exact⟨B,e,hB,hl⟩
theorem QY.names {A:List Nat} {f s:Int} {zs:List Str} (h:QY A f s zs) (hA:A.all jB=true):∀z∈zs,jo z=true:=λz hz=>by
 obtain⟨j,hj⟩:=List.getElem?_of_mem hz
 obtain⟨B,e,hB,hl⟩:=h j z hj
 refine k9 e hA ?_ hB hl
 unfold vm
 exact Xl (Int.emod_nonneg _ (by decide)) (Int.emod_lt_of_pos _ (by decide))
theorem QY.nodup {A:List Nat} {f s:Int} {zs:List Str} (h:QY A f s zs) (hs:s=1\/s=3\/s=5\/s=7\/s=9\/s=11) (hz:zs.length<=14):zs.Nodup:=by
 refine List.pairwise_iff_getElem.mpr λi j hi hj hij e=>?_
 obtain⟨B,b1,_⟩:=h j _ (List.getElem?_eq_getElem hj)
 obtain⟨C,c1,_⟩:=h i _ (List.getElem?_eq_getElem hi)
 rw[e]at c1
 have e2:(A++[vm f s j]++B)[A.length]?=(A++[vm f s i]++C)[A.length]?:=by rw[<-b1,<-c1]
 rw[List.append_assoc,List.append_assoc,List.getElem?_append_right (Nat.le_refl _),List.getElem?_append_right (Nat.le_refl _),Nat.sub_self]at e2
 have e3:vm f s j=vm f s i:=Option.some.inj e2
 exact absurd (Ks hs (by omega) (by omega) e3) (by omega)
theorem VC {A:List Nat} (h:A.all jB=true) (n:Nat):(A.take n).all jB=true:=by
 rw[List.all_eq_true]at h ⊢
 exact λx hx=>h x (List.mem_of_mem_take hx)
theorem Rc {r:Int} (h0:0<=r) (h1:r < 6):∃m:Int,(m=1\/m=3\/m=5\/m=7\/m=9\/m=11)/\vM [V.int 1,V.int 3,V.int 5,V.int 7,V.int 9,V.int 11] r=some (.int m):=by
 have:r=0\/r=1\/r=2\/r=3\/r=4\/r=5:=by omega
 rcases this with rfl | rfl | rfl | rfl | rfl | rfl
 . exact⟨1,by decide,rfl⟩
 . exact⟨3,by decide,rfl⟩
 . exact⟨5,by decide,rfl⟩
 . exact⟨7,by decide,rfl⟩
 . exact⟨9,by decide,rfl⟩
 . exact⟨11,by decide,rfl⟩
def UU:Sp:=λvs H Q _=>∃(d:Addr) (m:Nat) (n s t:Int),vs=[.ref d,.int m]/\H d=some (.dK (src n s t))/\m<=14/\
 ∀(l:Addr) (zs:List Str) (n' t':Int) (H':Hp),H l=none->H' l=some (.lst (zs.map V.str))->zs.length=m->(∀z∈zs,jo z=true)->zs.Nodup->H' d=some (.dK (src n' s t'))->Fr H d H'->Q (.ref l) H'
theorem WU:∀zs:List Str,(zs.map λ_=>1).sum=zs.length
 | []=>rfl
 | z::zs=>by rw[List.map_cons,List.sum_cons,WU zs,List.length_cons];omega
section
variable {P:Program} {w:World} {K:PySem.W.Frag} {mg:Str->Option Value} {base:Heap}
abbrev RF:List Str:=["_law_source_here","_law_many","_law_letters","_law_word","_law_ahead","_law_first","_law_step","_law_names_here","_law_k","_law_behind"]
theorem QA:qr RF ["_law_source_here","_law_many"] (qj Yj):=⟨rfl,rfl,rfl,by decide+kernel,rfl,by decide+kernel,by decide+kernel⟩
theorem xC {f fT:Addr} {fd fdT:FuncData} (F:jM K "_law_names" "_law_names" Yj f fd) (B:QJ mg) (hT:jq K mg "_law_take" Yg ["_law_source_here","_law_many"] fT fdT):qm P w K mg base qO 2 f fd ["_law_source_here","_law_many"] UU:=by
 have GT:qm P w K mg base qO 1 fT fdT ["_law_source_here","_law_many"] Ya:=zQ hT.fn
 refine F.okJ QA (λvs H Q E h=>?_) (λcdv A outer s H vs Q E hr h=>?_)
 . obtain⟨d,m,n,sd,t,rfl,_⟩:=h
   rfl
 . obtain⟨d,m,n,sd,t,rfl,hd,hm,q⟩:=h
   refine⟨_,qe (qw (i:=2) QA.nd rfl (Or.inr rfl) qI)
     (qe (qw (i:=3) QA.nd rfl (Or.inl rfl) (Vo PySem.F.plainAttrs_str PySem.F.slot_str_join PySem.F.type_str_join Kv qI (qb
       (j3 (N':=["_law_k","_law_letters","_law_source_here"]) (ix:=[none,some 2,some 0]) rfl ⟨rfl,rfl,rfl,rfl,rfl⟩
         (jp (by rfl) B.rng (qb qi qf))
         (λC s2 H2 fp pins=>⟨qt (i:=0) (show (["_law_k","_law_letters","_law_source_here"]:List Str).Nodup by decide+kernel) rfl (Or.inl rfl),jO,
           qZ wq (jv 1) (qJ hT GT hr (by rfl) (qb (jv 2) (qb qi qf))) (λ_ _=>rfl)⟩)) qf)))
     (qe (qw (i:=4) QA.nd rfl (Or.inl rfl) (JR yR (jv 3) ZK (ZJ (qN Jn (qJ hT GT hr (by rfl) (qb (jv 0) (qb qi qf))) (qJ hT GT hr (by rfl) (qb (jv 0) (qb qi qf)))))))
     (qe (qw (i:=5) QA.nd rfl (Or.inl rfl) (qJ hT GT hr (by rfl) (qb (jv 0) (qb qi qf))))
     (qe (qw (i:=6) QA.nd rfl (Or.inl rfl) (qZ jY (jD (qb qi (qb qi (qb qi (qb qi (qb qi (qb qi qf))))))) (qJ hT GT hr (by rfl) (qb (jv 0) (qb qi qf))) (λ_ _=>rfl)))
     (qe (qw (i:=7) QA.nd rfl (Or.inl rfl) (jD qf))
     (qe (jc PassesOwn.never rfl (jp (by rfl) B.rng (qb (jv 1) qf)) (qt (i:=8) QA.nd rfl (Or.inl rfl))
       (qe (qw (i:=9) QA.nd rfl (Or.inl rfl) (JR yR (jv 3) ZK (ZJ (qJ hT GT hr (by rfl) (qb (jv 0) (qb (qN Rt qi (qA Jv (by rfl) B.len boot_len (qb (jv 4) qf))) qf))))))
       (qg (jz (Vo PySem.F.plainAttrs_list PySem.F.slot_list_append PySem.F.type_list_append J7 (jv 7) (qb
         (qN Yz (qN Yz (jv 4) (qZ wq (jv 2) (qN QZ (qN Q0 (jv 5) (qN Jn (jv 6) (jv 8))) qi) (λ_ _=>rfl))) (jv 9)) qf))))))
     (qg (qv (jv 7))))))))),?_⟩
   refine⟨rfl,7,rfl,by decide,by decide,λD hD=>?_⟩
   have nDd:D≠d:=λe=>by rw[e,hd]at hD;cases hD
   refine Za (λi σ' H'=>∃(v:Option V) (n' t':Int) (ws:List Nat),σ'=[v,some (.str vP),some (.ref d)]/\H' d=some (.dK (src n' sd t'))/\H' D=some (.lst ((ws.map λk=>(⟨#[k]⟩:Str)).map V.str))/\ws.length=i/\ws.all jB=true/\Fr H d H')
     ⟨none,n,t,[],rfl,ql hd hD,qd,rfl,rfl,Fr.refl.new hD⟩ ?_ ?_
   . rintro i σ' H' hi ⟨v,n',t',ws,rfl,hd',hD',hl,ha,fr⟩
     refine⟨_,rfl,_,rfl,d,26,n',sd,t',rfl,hd',by decide,by decide,λr n3 t3 r0 r1=>?_⟩
     refine⟨vP,r,_,rfl,rfl,vO,wY r0 r1,_,(by rw[qh nDd];exact hD'),?_,?_⟩
     . rw[List.length_map,List.length_map,hl]
       exact qp (by omega)
     . refine⟨_,n3,t3,ws++[97+r.toNat],rfl,?_,?_,?_,?_,?_⟩
       . rw[qh (Ne.symm nDd)];exact qd
       . rw[List.map_append,List.map_append];exact qd
       . rw[List.length_append,hl];rfl
       . rw[List.all_append,ha]
         simp [Xl r0 r1]
       . exact(fr.at_d).own hD
   rintro σ' H1 ⟨v,n1,t1,ws,rfl,hd1,hD1,hl1,ha1,fr1⟩
   have hl1:ws.length=7:=hl1
   refine⟨Str.ofString "",D,_,rfl,rfl,.of hD1,?_,?_⟩
   . have e1:((ws.map λk=>(⟨#[k]⟩:Str)).map (·.length))=(ws.map λk=>(⟨#[k]⟩:Str)).map λ_=>1:=by
       refine List.map_congr_left λz hz=>?_
       obtain⟨c,_,rfl⟩:=List.mem_map.mp hz
       rfl
     have e2:(Str.ofString "").length=0:=by decide+kernel
     rw[e1,e2,WU,List.length_map,hl1]
     decide
   generalize hw:Txt.join (Str.ofString "") (ws.map λk=>(⟨#[k]⟩:Str))=wd
   have hW:wd.cps.toList=ws:=by rw[<-hw];exact RT ws
   have hWl:wd.length=7:=by
     show wd.cps.size=7
     rw[<-Array.length_toList,hW,hl1]
   refine⟨_,rfl,_,rfl,d,2,n1,sd,t1,rfl,hd1,by decide,by decide,λr2 n2 t2 r20 r21=>?_⟩
   refine⟨_,rfl,d,5,n2,sd,t2,rfl,qd,by decide,by decide,λr3 n3 t3 r30 r31=>?_⟩
   rw[jr]
   have e4:∃j:Nat,r2*r3=(j:Int)/\j<=4:=by
     have h2:r2=0\/r2=1:=by omega
     rcases h2 with rfl | rfl
     . exact⟨0,by omega,by omega⟩
     . exact⟨r3.toNat,by omega,by omega⟩
   obtain⟨j,ej,hj⟩:=e4
   refine⟨_,_,rfl,rfl,.inl ⟨by omega,by omega⟩,_,rfl,wd,r2*r3,rfl,rfl,rfl,by omega,?_⟩
   rw[ej]
   generalize ha:Txt.slice wd none (some (j:Int))=ah
   have hA:ah.cps.toList=ws.take j:=by rw[<-ha,Yc,hW]
   have hAl:ah.length=j:=by
     show ah.cps.size=j
     rw[<-Array.length_toList,hA,List.length_take,hl1]
     omega
   refine⟨_,rfl,d,26,n3,sd,t3,rfl,qd,by decide,by decide,λf n4 t4 f0 f1=>?_⟩
   rw[jr]
   refine⟨by show 6<=sizeLine;decide,λp hp=>?_⟩
   have npd:p≠d:=λe=>by rw[e,qd]at hp;cases hp
   refine⟨_,rfl,d,6,n4,sd,t4,rfl,(by rw[qh (Ne.symm npd)];exact qd),by decide,by decide,λr5 n5 t5 r50 r51=>?_⟩
   obtain⟨st,hst,hsa⟩:=Rc r50 r51
   refine⟨p,_,r5,.int st,rfl,rfl,.of (by rw[qh npd];exact qd),hsa,?_⟩
   have fr5:Fr H d (upd (upd (upd H1 d (.dK (src n4 sd t4))) p (.lst [V.int 1,V.int 3,V.int 5,V.int 7,V.int 9,V.int 11])) d (.dK (src n5 sd t5))):=(fr1.at_d.new hp).at_d
   generalize hH5:upd (upd (upd H1 d (.dK (src n4 sd t4))) p (.lst [V.int 1,V.int 3,V.int 5,V.int 7,V.int 9,V.int 11])) d (.dK (src n5 sd t5))=H5 at fr5
   have hd5:H5 d=some (.dK (src n5 sd t5)):=by rw[<-hH5];exact qd
   refine⟨by show 0<=sizeLine;decide,λl hl=>⟨_,rfl,m,rfl,by omega,by omega,?_⟩⟩
   have hHl:H l=none:=fr5.fresh hd5 hl
   have nld:l≠d:=λe=>by rw[e,hd5]at hl;cases hl
   refine QI (lo:=0) (n:=m) (λi σ' H'=>∃(v1 v2:Option V) (n' t':Int) (zs:List Str),σ'=[some (.ref d),some (.int m),some (.str vP),some (.str wd),some (.str ah),some (.int f),some (.int st),some (.ref l),v1,v2]/\
     H' d=some (.dK (src n' sd t'))/\H' l=some (.lst (zs.map V.str))/\zs.length=i/\QY (ws.take j) f st zs/\Fr H d H')
     ⟨none,none,n5,t5,[],rfl,ql hd5 hl,qd,rfl,λj z hz=>(nomatch hz),fr5.new hl⟩ ?_ ?_
   . rintro i σ' H' hi ⟨v1,v2,n',t',zs,rfl,hd',hl',hz,hN,fr⟩
     rw[Int.zero_add]
     refine⟨_,rfl,_,rfl,_,rfl,ah,rfl,(by rw[hAl];exact Nat.le_of_lt (qp (by omega))),_,_,rfl,rfl,d,8 - (ah.length:Int),n',sd,t',rfl,hd',by omega,by omega,λr n6 t6 r0 r1=>?_⟩
     have er:r=((r.toNat:Nat):Int):=by omega
     refine⟨_,rfl,wd,r,rfl,rfl,rfl,by omega,?_⟩
     generalize hb:Txt.slice wd none (some r)=bh
     have hB:bh.cps.toList=ws.take r.toNat:=by rw[<-hb,er,Yc,hW];rfl
     have hBl:bh.length<=r.toNat:=by
       show bh.cps.size<=r.toNat
       rw[<-Array.length_toList,hB,List.length_take]
       omega
     refine⟨_,rfl,.inl ⟨rfl,_,.of (by rw[qh nld];exact hl')⟩,_,rfl,_,rfl,_,rfl,_,rfl,_,rfl,_,_,rfl,rfl,.inl ⟨by omega,by omega⟩,_,_,rfl,rfl,_,_,rfl,rfl,(by show (0:Int) < 26;decide),?_⟩
     refine⟨vP,_,_,rfl,rfl,vO,wY (Int.emod_nonneg _ (by decide)) (Int.emod_lt_of_pos _ (by decide)),?_⟩
     have e26:97+((f+st*(i:Int)) % 26).toNat=vm f st i:=rfl
     rw[e26]
     have l1:(ah++(⟨#[vm f st i]⟩:Str)).length=j+1:=by
       show (ah++(⟨#[vm f st i]⟩:Str)).cps.size=_
       rw[Str.cps_append,Array.size_append]
       show ah.length+1=_
       rw[hAl]
     refine⟨_,_,rfl,rfl,Nat.le_of_lt (qp (by show ah.length+1<=1000;omega)),_,rfl,_,_,rfl,rfl,Nat.le_of_lt (qp (by rw[l1];omega)),?_⟩
     refine⟨l,_,_,rfl,rfl,(by rw[qh nld];exact hl'),(by rw[List.length_map,hz];exact qp (by omega)),?_⟩
     refine⟨_,_,n6,t6,zs++[ah++(⟨#[vm f st i]⟩:Str)++bh],rfl,?_,?_,?_,?_,?_⟩
     . rw[qh (Ne.symm nld)];exact qd
     . rw[List.map_append];exact qd
     . rw[List.length_append,hz];rfl
     . refine hN.snoc (B:=ws.take r.toNat) ?_ (VC ha1 _) ?_
       . rw[Str.cps_append,Str.cps_append,Array.toList_append,Array.toList_append,hA,hB,hz]
       . rw[List.length_take,List.length_take]
         omega
     . exact fr.at_d.own hHl
   . rintro σ' H' ⟨v1,v2,n',t',zs,rfl,hd',hl',hz,hN,fr⟩
     exact⟨_,rfl,q l zs n' t' H' hHl hl' hz (hN.names (VC ha1 _)) (hN.nodup hst (by omega)) hd' fr⟩
end
end Rh
set_option Elab.async false
set_option linter.all false
set_option maxRecDepth 100000
set_option maxHeartbeats 4000000
namespace Rh
open PySem L2 PyProof.Rows
def Ur (t:TT) (σ:L2.St) (H:Hp):Prop:=∀Q:Bool->Hp->Prop,(∀b,Q b H)->t σ H Q
theorem Ur.and {t u:TT} {σ:L2.St} {H:Hp} (h:Ur t σ H) (k:Ur u σ H):Ur (GY t u) σ H:=λQ q=>h _ λb=>by
 cases b
 . exact jf (q false)
 . exact jP (k _ q)
theorem Ur.or {t u:TT} {σ:L2.St} {H:Hp} (h:Ur t σ H) (k:Ur u σ H):Ur (tOr t u) σ H:=λQ q=>h _ λb=>by
 cases b
 . exact jf (k _ q)
 . exact jP (q true)
theorem wz {tc:TT} {tp:TS} {D:QS} {σ:L2.St} {H0:Hp} (G:Hp->Prop) (h:G H0) (ht:Ur tc σ H0) (hp:∀D:QS,(∀H',G H'->D.nx σ H')->tp D σ H0) (k:∀H',G H'->D.nx σ H'):uq tc tp UJ D σ H0:=
 ht _ λb=>by
   cases b
   . exact jf (k _ h)
   . exact jP (hp D k)
theorem zV {tc:TT} {tp u:TS} {D:QS} {σ:L2.St} {H0:Hp} (G:Hp->Prop) (h:G H0) (ht:Ur tc σ H0) (hp:∀D:QS,(∀H',G H'->D.nx σ H')->tp D σ H0) (k:∀H',G H'->u D σ H'):GJ (uq tc tp UJ) u D σ H0:=wz G h ht hp k
theorem YK {i:Nat} {v:V} {σ:L2.St} {H:Hp} {Q:L2.St->Hp->Prop} (h:Q (σ.set i (some v)) H):QP i v σ H Q:=h
abbrev up (k:Nat×Nat):Int×Int:=((k.1:Int),(k.2:Int))
def Gs (a b:Nat×Nat):Prop:=a.1 < b.1\/(a.1=b.1/\a.2 < b.2)
abbrev Z6 (ks:List (Nat×Nat)):List (List qE):=ks.map λk=>zm (up k)
theorem kF {a b:Nat×Nat} (h:zm (up a)=zm (up b)):a=b:=by
 unfold zm at h
 simp only[List.cons.injEq,Sum.inl.injEq,and_true]at h
 exact Prod.ext (by have:=h.1;omega) (by have:=h.2;omega)
structure JF (m i j:Nat) (ks:List (Nat×Nat)):Prop where
 ord:ks.Pairwise Gs
 lt:∀x∈ks,x.2 < m/\(x.1 < i\/(x.1=i/\x.2 < j))
 len:ks.length<=i*m+j
theorem JF.more {m i j:Nat} {ks:List (Nat×Nat)} (h:JF m i j ks):JF m i (j+1) ks:=⟨h.ord,λx hx=>by have:=h.lt x hx;omega,by have:=h.len;omega⟩
theorem JF.snoc {m i j:Nat} {ks:List (Nat×Nat)} (h:JF m i j ks) (hj:j < m):JF m i (j+1) (ks++[(i,j)]):=by
 refine⟨List.pairwise_append.mpr ⟨h.ord,List.pairwise_singleton _ _,λa ha b hb=>?_⟩,λx hx=>?_,?_⟩
 . rw[List.mem_singleton.mp hb]
   have:=h.lt a ha
   unfold Gs
   omega
 . rcases List.mem_append.mp hx with hx | hx
   . have:=h.lt x hx
     omega
   . rw[List.mem_singleton.mp hx]
     exact⟨hj,.inr ⟨rfl,Nat.lt_succ_self _⟩⟩
 . rw[List.length_append]
   have:=h.len
   show ks.length+1<=_
   omega
theorem JF.row {m i:Nat} {ks:List (Nat×Nat)} (h:JF m i m ks):JF m (i+1) 0 ks:=⟨h.ord,λx hx=>by have:=h.lt x hx;omega,by have:=h.len;rw[Nat.succ_mul];omega⟩
def Nz (m i j:Nat) (kvs:List (List qE×V)):Prop:=∃ks,JF m i j ks/\(kvs.map (·.1)=Z6 ks\/kvs.map (·.1)=Z6 (ks++[(i,j)]))
theorem vN (kvs:List (List qE×V)) (k:List qE):((kvs.any λkv=>decide (kv.1=k))=true)↔k∈kvs.map (·.1):=by
 rw[List.any_eq_true,List.mem_map]
 simp
theorem Kx {kvs:List (List qE×V)} {k:List qE} (v:V) (h:k∈kvs.map (·.1)):(jA kvs k v).map (·.1)=kvs.map (·.1):=by
 unfold jA
 rw[if_pos ((vN kvs k).mpr h),List.map_map]
 refine List.map_congr_left λx _=>?_
 show (if x.1=k then (x.1,v) else x).1=x.1
 split<;>rfl
theorem x3 {kvs:List (List qE×V)} {k:List qE} (v:V) (h:¬k∈kvs.map (·.1)):(jA kvs k v).map (·.1)=kvs.map (·.1)++[k]:=by
 unfold jA
 rw[if_neg (λz=>h ((vN kvs k).mp z)),List.map_append]
 rfl
theorem Nz.put {m i j:Nat} {kvs:List (List qE×V)} (h:Nz m i j kvs) (v:V):Nz m i j (jA kvs (zm (up (i,j))) v):=by
 obtain⟨ks,ha,h⟩:=h
 refine⟨ks,ha,.inr ?_⟩
 rcases h with h | h
 . rw[x3,h,Z6,Z6,List.map_append]
   . rfl
   . rw[h]
     intro z
     obtain⟨x,hx,e⟩:=List.mem_map.mp z
     have e':=kF e
     have:=ha.lt x hx
     rw[e']at this
     omega
 . rw[Kx,h]
   rw[h]
   exact List.mem_map.mpr ⟨(i,j),by simp,rfl⟩
theorem Nz.len {m i j:Nat} {kvs:List (List qE×V)} (h:Nz m i j kvs):kvs.length<=i*m+j+1:=by
 obtain⟨ks,ha,h⟩:=h
 have hl:=ha.len
 rcases h with h | h
 . have:=congrArg List.length h
   simp only[List.length_map]at this
   omega
 . have:=congrArg List.length h
   simp only[List.length_map,List.length_append,List.length_singleton]at this
   omega
theorem Ga {i m:Nat} (hi:i<=m) (hm:m<=14):i*m<=196:=Nat.le_trans (Nat.mul_le_mul (Nat.le_trans hi hm) hm) (by decide)
theorem Mq (xs:List V):Y0 xs none (some 40)=xs.take 40:=by
 unfold Y0
 have e1:HT.sIx xs.length 0 none=0:=rfl
 have e2:HT.sIx xs.length xs.length (some 40)=min 40 xs.length:=by
   simp [HT.sIx]
 rw[e1,e2,List.drop_zero,Nat.sub_zero]
 by_cases h:40<=xs.length
 . rw[Nat.min_eq_left h]
 . rw[Nat.min_eq_right (by omega),List.take_of_length_le (Nat.le_refl _),List.take_of_length_le (by omega)]
def Zc (H:Hp) (ps:List Addr) (ks:List (Nat×Nat)):Prop:=ps.length=ks.length/\∀(i:Nat) (p:Addr) (k:Nat×Nat),ps[i]?=some p->ks[i]?=some k->H p=some (.tup [.int (k.1:Nat),.int (k.2:Nat)])
def UV:Sp:=λvs H Q _=>∃(d:Addr) (m:Nat) (n s t sh lo:Int),vs=[.ref d,.int m,.int sh,.int lo]/\H d=some (.dK (src n s t))/\m<=14/\
 ∀(l:Addr) (ps:List Addr) (ks:List (Nat×Nat)) (n' t':Int) (H':Hp),H l=none->H' l=some (.lst (ps.map V.ref))->Zc H' ps ks->ks.Pairwise Gs->(∀x∈ks,x.1 < m/\x.2 < m)->ks.length<=40->H' d=some (.dK (src n' s t'))->Fr H d H'->Q (.ref l) H'
section
variable {P:Program} {w:World} {K:PySem.W.Frag} {mg:Str->Option Value} {base:Heap}
abbrev RG:List Str:=["_law_source_here","_law_many","_law_shape","_law_low","_law_pairs","_law_k","_law_j","_law_way"]
abbrev Yx:List Str:=["_law_source_here","_law_many","_law_shape","_law_low"]
theorem Zy:qr RG Yx (qj Ym):=⟨rfl,rfl,rfl,by decide+kernel,rfl,by decide+kernel,by decide+kernel⟩
theorem xF {f fT:Addr} {fd fdT:FuncData} (F:jM K "_law_leads" "_law_leads" Ym f fd) (B:QJ mg) (hso:mg "sorted"=none) (hT:jq K mg "_law_take" Yg ["_law_source_here","_law_many"] fT fdT):qm P w K mg base qO 2 f fd Yx UV:=by
 have GT:qm P w K mg base qO 1 fT fdT ["_law_source_here","_law_many"] Ya:=zQ hT.fn
 refine F.okJ Zy (λvs H Q E h=>?_) (λcdv A outer s H vs Q E hr h=>?_)
 . obtain⟨d,m,n,sd,t,sh,lo,rfl,_⟩:=h
   rfl
 . obtain⟨d,m,n,sd,t,sh,lo,rfl,hd,hm,q⟩:=h
   have hu:=jV hr
   refine⟨_,qe (qw (i:=4) Zy.nd rfl (Or.inl rfl) wm)
     (qe (jc PassesOwn.never rfl (jp (by rfl) B.rng (qb (jv 1) qf)) (qt (i:=5) Zy.nd rfl (Or.inl rfl))
       (qg (jc PassesOwn.never rfl (jp (by rfl) B.rng (qb (jv 1) qf)) (qt (i:=6) Zy.nd rfl (Or.inl rfl))
         (qe (qw (i:=7) Zy.nd rfl (Or.inl rfl) (qJ hT GT hr (by rfl) (qb (jv 0) (qb qi qf))))
         (qe (qM (Qi (qu Qe (jv 2) qi (qy _)) (jX (QO (Qi (qu QN (jv 6) (jv 5) (qy _)) (jX (qu QN (jv 7) qi (qy _)))).pt (Qh (Qi (qu xp (jv 6) (jv 5) (qy _)) (jX (qu QN (jv 7) qi (qy _)))).pt)).pt)).pt
           (qg (je hu (jv 4) (jC (qb (jv 5) (qb (jv 6) qf))) jG rfl)) qz)
         (qe (qM (Qi (qu Qe (jv 2) qi (qy _)) (jX (qu QN (jv 7) qi (qy _)))).pt
           (qg (je hu (jv 4) (jC (qb (jv 5) (qb (jv 6) qf))) jG rfl)) qz)
         (qe (qM (Qi (qu Qe (jv 2) qi (qy _)) (jX (QO (Qi (qu Qe (jv 6) (qN QZ (qN Q0 (jv 5) qi) (jv 1)) (qy _)) (jX (qu QN (jv 7) qi (qy _)))).pt (Qh (qu QN (jv 7) qi (qy _)))).pt)).pt
           (qg (je hu (jv 4) (jC (qb (jv 5) (qb (jv 6) qf))) jG rfl)) qz)
         (qe (qM (Qi (qu Qe (jv 2) qi (qy _)) (Qi (qu QN (jv 6) (jv 5) (qy _)) (jX (QO (qu QN (jv 6) (jv 3) (qy _)) (Qh (qu QN (jv 7) qi (qy _)))).pt))).pt
           (qg (je hu (jv 4) (jC (qb (jv 5) (qb (jv 6) qf))) jG rfl)) qz)
         (qg (qM (Qi (qu Qe (jv 2) qi (qy _)) (jX (QO (Qi (qu QN (jv 6) (jv 3) (qy _)) (jX (qu QN (jv 6) (jv 5) (qy _)))).pt (Qh (Qi (qu xp (jv 5) (jv 3) (qy _)) (jX (qu QN (jv 7) qi (qy _)))).pt)).pt)).pt
           (qg (je hu (jv 4) (jC (qb (jv 5) (qb (jv 6) qf))) jG rfl)) qz)))))))))
       )
     (qg (qv (JR U0 (qA (Uo rfl) (by rfl) hso boot_sorted (qb (jv 4) qf)) ZK (ZJ qi))))),?_⟩
   intro D hD
   have nDd:D≠d:=λe=>by rw[e,hd]at hD;cases hD
   refine⟨_,rfl,m,rfl,by omega,by omega,?_⟩
   refine QI (lo:=0) (n:=m) (λi σ' H'=>∃(v1 v2 v3:Option V) (n' t':Int) (kvs:List (List qE×V)) (ks:List (Nat×Nat)),σ'=[some (.ref d),some (.int m),some (.int sh),some (.int lo),some (.ref D),v1,v2,v3]/\
     H' d=some (.dK (src n' sd t'))/\H' D=some (.dT kvs)/\kvs.map (·.1)=Z6 ks/\JF m i 0 ks/\Fr H d H')
     ⟨none,none,none,n,t,[],[],rfl,ql hd hD,qd,rfl,⟨.nil,λx hx=>(nomatch hx),Nat.zero_le _⟩,Fr.refl.new hD⟩ ?_ ?_
   . rintro i σ' H' hi ⟨v1,v2,v3,n',t',kvs,ks,rfl,hd',hD',ek,ha,fr⟩
     rw[Int.zero_add]
     refine⟨_,rfl,m,rfl,by omega,by omega,?_⟩
     refine QI (lo:=0) (n:=m) (λj σ' H'=>∃(v2 v3:Option V) (n' t':Int) (kvs:List (List qE×V)) (ks:List (Nat×Nat)),σ'=[some (.ref d),some (.int m),some (.int sh),some (.int lo),some (.ref D),some (.int i),v2,v3]/\
       H' d=some (.dK (src n' sd t'))/\H' D=some (.dT kvs)/\kvs.map (·.1)=Z6 ks/\JF m i j ks/\Fr H d H')
       ⟨_,_,n',t',kvs,ks,rfl,hd',hD',ek,ha,fr⟩ ?_ ?_
     . rintro j σ' H2 hj ⟨v2,v3,n2,t2,kvs,ks,rfl,hd2,hD2,ek,ha,fr⟩
       rw[Int.zero_add]
       refine⟨_,rfl,d,12,n2,sd,t2,rfl,hd2,by decide,by decide,λr n3 t3 r0 r1=>?_⟩
       have hsq:=Ga (Nat.le_of_lt hi) hm
       let G:Hp->Prop:=λH'=>∃(kvs:List (List qE×V)),H' d=some (.dK (src n3 sd t3))/\H' D=some (.dT kvs)/\Nz m i j kvs/\Fr H d H'
       have g0:G (upd H2 d (.dK (src n3 sd t3))):=⟨kvs,qd,(by rw[qh nDd];exact hD2),⟨ks,ha,.inl ek⟩,fr.at_d⟩
       have put:∀H',G H'->∀E:QS,(∀H',G H'->E.nx [some (.ref d),some (.int m),some (.int sh),some (.int lo),some (.ref D),some (.int i),some (.int j),some (.int r)] H')->
           Gm (qU 4) (um (jI (qU 5) (jI (qU 6) Zd))) (tC (.bl true)) E [some (.ref d),some (.int m),some (.int sh),some (.int lo),some (.ref D),some (.int i),some (.int j),some (.int r)] H':=by
         rintro H' ⟨kvs,h1,h2,h3,h4⟩ E k
         refine⟨_,rfl,_,rfl,_,rfl,by show 2<=sizeLine;decide,λp hp=>?_⟩
         have npd:p≠d:=λe=>by rw[e,h1]at hp;cases hp
         have npD:p≠D:=λe=>by rw[e,h2]at hp;cases hp
         refine⟨D,_,rfl,QR.t (k:=zm (up (i,j))) (kvs:=kvs) (by rw[qh (Ne.symm npD)];exact h2) qd (qp (by have:=h3.len;omega)),?_⟩
         refine k _ ⟨_,?_,qd,h3.put _,?_⟩
         . rw[qh (Ne.symm nDd),qh (Ne.symm npd)]
           exact h1
         . exact(h4.new hp).own hD
       refine YK ?_
       dsimp only[List.set]
       refine zV G g0 ?_ (put _ g0) λH3 g3=>?_
       . exact Ur.and (λQ q=>⟨_,rfl,rfl,_,rfl,q _⟩) (.or (.and (λQ q=>⟨_,rfl,_,rfl,_,_,rfl,rfl,_,rfl,q _⟩) (λQ q=>⟨_,rfl,_,_,rfl,rfl,_,rfl,q _⟩)) (.and (λQ q=>⟨_,rfl,_,rfl,_,_,rfl,rfl,_,rfl,q _⟩) (λQ q=>⟨_,rfl,_,_,rfl,rfl,_,rfl,q _⟩)))
       refine zV G g3 ?_ (put _ g3) λH4 g4=>?_
       . exact Ur.and (λQ q=>⟨_,rfl,rfl,_,rfl,q _⟩) (λQ q=>⟨_,rfl,_,_,rfl,rfl,_,rfl,q _⟩)
       refine zV G g4 ?_ (put _ g4) λH5 g5=>?_
       . exact Ur.and (λQ q=>⟨_,rfl,rfl,_,rfl,q _⟩) (.or (.and (λQ q=>⟨_,rfl,_,rfl,_,_,rfl,rfl,_,rfl,_,_,rfl,rfl,(by show (0:Int) < m;omega),rfl,_,rfl,q _⟩) (λQ q=>⟨_,rfl,_,_,rfl,rfl,_,rfl,q _⟩)) (λQ q=>⟨_,rfl,_,_,rfl,rfl,_,rfl,q _⟩))
       refine zV G g5 ?_ (put _ g5) λH6 g6=>?_
       . exact Ur.and (λQ q=>⟨_,rfl,rfl,_,rfl,q _⟩) (.and (λQ q=>⟨_,rfl,_,rfl,_,_,rfl,rfl,_,rfl,q _⟩) (.or (λQ q=>⟨_,rfl,_,rfl,_,_,rfl,rfl,_,rfl,q _⟩) (λQ q=>⟨_,rfl,_,_,rfl,rfl,_,rfl,q _⟩)))
       refine wz G g6 ?_ (put _ g6) λH7 g7=>?_
       . exact Ur.and (λQ q=>⟨_,rfl,rfl,_,rfl,q _⟩) (.or (.and (λQ q=>⟨_,rfl,_,rfl,_,_,rfl,rfl,_,rfl,q _⟩) (λQ q=>⟨_,rfl,_,rfl,_,_,rfl,rfl,_,rfl,q _⟩)) (.and (λQ q=>⟨_,rfl,_,rfl,_,_,rfl,rfl,_,rfl,q _⟩) (λQ q=>⟨_,rfl,_,_,rfl,rfl,_,rfl,q _⟩)))
       obtain⟨kvs,h1,h2,⟨ks,ha,h3⟩,h4⟩:=g7
       rcases h3 with h3 | h3
       . exact⟨_,_,n3,t3,kvs,ks,rfl,h1,h2,h3,ha.more,h4⟩
       . exact⟨_,_,n3,t3,kvs,_,rfl,h1,h2,h3,ha.snoc hj,h4⟩
     . rintro σ' H2 ⟨v2,v3,n2,t2,kvs,ks,rfl,hd2,hD2,ek,ha,fr⟩
       exact⟨_,_,_,n2,t2,kvs,ks,rfl,hd2,hD2,ek,ha.row,fr⟩
   . rintro σ' H1 ⟨v1,v2,v3,n1,t1,kvs,ks,rfl,hd1,hD1,ek,ha,fr⟩
     have hl:kvs.length=ks.length:=by simpa using congrArg List.length ek
     have hsq:=Ga (Nat.le_refl m) hm
     have hal:=ha.len
     refine⟨_,rfl,D,kvs,ks.map up,rfl,hD1,?_,?_,by omega,λl ps hfl lps tup=>?_⟩
     . rw[ek,List.map_map]
       rfl
     . intro i k k' e1 e2
       rw[List.getElem?_map]at e1 e2
       cases e3:ks[i]? with
       | none=>rw[e3]at e1;cases e1
       | some a=>
         cases e4:ks[i+1]? with
         | none=>rw[e4]at e2;cases e2
         | some b=>
           rw[e3]at e1
           rw[e4]at e2
           obtain rfl:=(Option.some.inj e1).symm
           obtain rfl:=(Option.some.inj e2).symm
           have h5:=List.pairwise_iff_getElem.mp ha.ord i (i+1) (List.getElem?_eq_some_iff.mp e3).1 (List.getElem?_eq_some_iff.mp e4).1 (Nat.lt_succ_self _)
           rw[(List.getElem?_eq_some_iff.mp e3).2,(List.getElem?_eq_some_iff.mp e4).2]at h5
           unfold Gs at h5
           show YC _ _
           unfold YC
           show (a.1:Int) < b.1\/((a.1:Int)=b.1/\(a.2:Int) < b.2)
           omega
     . refine⟨40,rfl,l,_,rfl,.of qd,λl2 hl2=>?_⟩
       rw[Mq,<-List.map_take]
       have n2d:l2≠d:=λe=>by
         rw[e,ql hd1 hfl]at hl2
         cases hl2
       have hl1:H1 l2=none:=by
         by_cases e:l2=l
         . rw[e];exact hfl
         . rw[qh e]at hl2;exact hl2
       have fr2:=(fr.new (o:=.lst (ps.map V.ref)) hfl).new (o:=.lst ((ps.take 40).map V.ref)) hl2
       refine q l2 (ps.take 40) (ks.take 40) n1 t1 _ (fr.fresh hd1 hl1) qd ⟨?_,λi p k e1 e2=>?_⟩ ?_ ?_ ?_ ?_ fr2
       . rw[List.length_take,List.length_take,lps,List.length_map]
       . have i40:i < 40:=by
           have:=(List.getElem?_eq_some_iff.mp e1).1
           rw[List.length_take]at this
           omega
         rw[List.getElem?_take_of_lt i40]at e1 e2
         have h1:=tup i p (up k) e1 (by rw[List.getElem?_map,e2];rfl)
         exact ql (ql h1 hfl) hl2
       . exact ha.ord.sublist (List.take_sublist _ _)
       . intro x hx
         have:=ha.lt x (List.mem_of_mem_take hx)
         omega
       . rw[List.length_take]
         omega
       . exact ql (ql hd1 hfl) hl2
end
end Rh
set_option Elab.async false
set_option linter.all false
set_option maxRecDepth 100000
set_option maxHeartbeats 4000000
namespace Rh
open PySem L2 PyProof.Rows
structure qB (rs:List (Str×List Str)):Prop where
 nm:∀r∈rs,jo r.1=true
 nd:(rs.map (·.1)).Nodup
 to:∀r∈rs,∀z∈r.2,z∈rs.map (·.1)
 rd:∀r∈rs,r.2.Nodup
 few:(rs.map λr=>r.2.length).sum<=40
def WK (zs:List Str) (j:Nat):Str:=zs.getD j ⟨#[]⟩
theorem ug {zs:List Str} {j:Nat} (h:j < zs.length):WK zs j∈zs:=by
 unfold WK
 rw[List.getD_eq_getElem?_getD,List.getElem?_eq_getElem h]
 exact List.getElem_mem h
theorem XE {zs:List Str} {j:Nat} (h:j < zs.length):zs[j]?=some (WK zs j):=by
 unfold WK
 rw[List.getD_eq_getElem?_getD,List.getElem?_eq_getElem h]
 rfl
theorem Uz {zs:List Str} (hn:zs.Nodup) {i j:Nat} (hi:i < zs.length) (hj:j < zs.length) (h:WK zs i=WK zs j):i=j:=by
 have h1:=XE hi
 have h2:=XE hj
 rw[h,<-h2,List.getElem?_eq_getElem hi,List.getElem?_eq_getElem hj]at h1
 have e:zs[i]=zs[j]:=Option.some.inj h1
 rcases Nat.lt_trichotomy i j with l | l | l
 . exact absurd e (List.pairwise_iff_getElem.mp hn i j hi hj l)
 . exact l
 . exact absurd e.symm (List.pairwise_iff_getElem.mp hn j i hj hi l)
theorem J6 {α β:Type} {f:α->β}:∀{l:List α},l.Nodup->(∀a∈l,∀b∈l,f a=f b->a=b)->(l.map f).Nodup
 | [],_,_=>List.nodup_nil
 | a::l,h,k=>by
   rw[List.map_cons,List.nodup_cons]
   rw[List.nodup_cons]at h
   refine⟨λz=>?_,J6 h.2 λx hx y hy=>k x (List.mem_cons_of_mem _ hx) y (List.mem_cons_of_mem _ hy)⟩
   obtain⟨b,hb,e⟩:=List.mem_map.mp z
   have:=k b (List.mem_cons_of_mem _ hb) a (List.mem_cons_self) e
   subst this
   exact h.1 hb
def Y7 (ks:List (Nat×Nat)) (k:Nat):List Nat:=(ks.filter λx=>decide (x.1=k)).map (·.2)
theorem kc {ks:List (Nat×Nat)} (h:ks.Pairwise Gs) (k:Nat):(Y7 ks k).Nodup:=by
 have h1:(ks.filter λx=>decide (x.1=k)).Pairwise Gs:=h.sublist (List.filter_sublist)
 refine List.pairwise_map.mpr (List.Pairwise.imp_of_mem (λ{a b} ha hb r=>?_) h1)
 have e1:a.1=k:=of_decide_eq_true (List.mem_filter.mp ha).2
 have e2:b.1=k:=of_decide_eq_true (List.mem_filter.mp hb).2
 unfold Gs at r
 omega
theorem VL {ks:List (Nat×Nat)} {m:Nat} (h:∀x∈ks,x.1 < m/\x.2 < m) (k:Nat):∀j∈Y7 ks k,j < m:=λj hj=>by
 obtain⟨x,hx,e⟩:=List.mem_map.mp hj
 have:=(h x (List.mem_filter.mp hx).1).2
 omega
theorem uv (os:List Nat) (f g:Nat->Nat):(os.map λk=>f k+g k).sum=(os.map f).sum+(os.map g).sum:=by
 induction os with
 | nil=>rfl
 | cons a os ih=>
   simp only[List.map_cons,List.sum_cons,ih]
   omega
theorem uu {os:List Nat} (h:os.Nodup) (a:Nat):(os.map λk=>if a=k then 1 else 0).sum<=1:=by
 induction os with
 | nil=>exact Nat.zero_le _
 | cons b os ih=>
   rw[List.nodup_cons]at h
   rw[List.map_cons,List.sum_cons]
   by_cases e:a=b
   . subst e
     have z:(os.map λk=>if a=k then 1 else 0)=os.map λ_=>0:=List.map_congr_left λk hk=>by
       rw[if_neg]
       intro e
       subst e
       exact h.1 hk
     rw[z,if_pos rfl]
     have:(os.map λ_=>0).sum=0:=by
       clear z ih h
       induction os with
       | nil=>rfl
       | cons c os ih=>rw[List.map_cons,List.sum_cons,ih]
     omega
   . rw[if_neg e]
     have:=ih h.2
     omega
theorem UH {os:List Nat} (h:os.Nodup):∀ks:List (Nat×Nat),(os.map λk=>(Y7 ks k).length).sum<=ks.length
 | []=>by
   have:(os.map λk=>(Y7 [] k).length).sum=0:=by
     clear h
     induction os with
     | nil=>rfl
     | cons c os ih=>rw[List.map_cons,List.sum_cons,ih];rfl
   omega
 | x::ks=>by
   have e:(os.map λk=>(Y7 (x::ks) k).length)=os.map λk=>(if x.1=k then 1 else 0)+(Y7 ks k).length:=List.map_congr_left λk _=>by
     unfold Y7
     rw[List.filter_cons]
     by_cases z:x.1=k
     . rw[if_pos (decide_eq_true z),if_pos z]
       simp only[List.map_cons,List.length_cons]
       omega
     . rw[if_neg (by simpa using z),if_neg z,Nat.zero_add]
   rw[e,uv,List.length_cons]
   have:=uu h x.1
   have:=UH h ks
   omega
def Jc (zs:List Str) (ks:List (Nat×Nat)) (ab:Bool) (k:Nat):Str×List Str:=
 (WK zs k,if ab=true then ((Y7 ks k).map (WK zs)).reverse else (Y7 ks k).map (WK zs))
theorem kt {zs:List Str} {ks:List (Nat×Nat)} {ab:Bool} {k:Nat} {z:Str}:z∈(Jc zs ks ab k).2↔z∈(Y7 ks k).map (WK zs):=by
 unfold Jc
 cases ab
 . rw[if_neg Bool.false_ne_true]
 . rw[if_pos rfl,List.mem_reverse]
theorem ku {zs:List Str} {ks:List (Nat×Nat)} {ab:Bool} {k:Nat}:(Jc zs ks ab k).2.length=(Y7 ks k).length:=by
 unfold Jc
 cases ab
 . rw[if_neg Bool.false_ne_true,List.length_map]
 . rw[if_pos rfl,List.length_reverse,List.length_map]
structure VE (m:Nat) (os:List Nat):Prop where
 len:os.length=m
 nd:os.Nodup
 lt:∀k∈os,k < m
 all:∀j,j < m->j∈os
theorem yd {zs:List Str} {ks:List (Nat×Nat)} {os:List Nat} {m:Nat} (ab:Bool) (hz:zs.length=m) (hN:∀z∈zs,jo z=true) (hd:zs.Nodup) (hk:ks.Pairwise Gs) (hl:∀x∈ks,x.1 < m/\x.2 < m) (h40:ks.length<=40) (ho:VE m os):
   qB (os.map (Jc zs ks ab)):=by
 have e1:(os.map (Jc zs ks ab)).map (·.1)=os.map (WK zs):=by rw[List.map_map];rfl
 have inj:∀a∈os,∀b∈os,WK zs a=WK zs b->a=b:=λa ha b hb e=>Uz hd (by rw[hz];exact ho.lt a ha) (by rw[hz];exact ho.lt b hb) e
 refine⟨λr hr=>?_,?_,λr hr z hz'=>?_,λr hr=>?_,?_⟩
 . obtain⟨k,hk',rfl⟩:=List.mem_map.mp hr
   exact hN _ (ug (by rw[hz];exact ho.lt k hk'))
 . rw[e1]
   exact J6 ho.nd inj
 . obtain⟨k,hk',rfl⟩:=List.mem_map.mp hr
   rw[kt]at hz'
   obtain⟨j,hj,rfl⟩:=List.mem_map.mp hz'
   rw[e1]
   exact List.mem_map.mpr ⟨j,ho.all j (VL hl k j hj),rfl⟩
 . obtain⟨k,hk',rfl⟩:=List.mem_map.mp hr
   have h1:((Y7 ks k).map (WK zs)).Nodup:=J6 (kc hk k) λa ha b hb e=>Uz hd (by rw[hz];exact VL hl k a ha) (by rw[hz];exact VL hl k b hb) e
   show (if ab=true then _ else _:List Str).Nodup
   cases ab
   . rw[if_neg Bool.false_ne_true]
     exact h1
   . rw[if_pos rfl]
     exact List.pairwise_reverse.mpr (h1.imp λh=>Ne.symm h)
 . have e2:((os.map (Jc zs ks ab)).map λr=>r.2.length)=os.map λk=>(Y7 ks k).length:=by
     rw[List.map_map]
     exact List.map_congr_left λk _=>ku
   rw[e2]
   exact Nat.le_trans (UH ho.nd ks) h40
theorem xm (m:Nat):VE m (List.range m):=⟨List.length_range,List.nodup_range,λk h=>List.mem_range.mp h,λj h=>List.mem_range.mpr h⟩
theorem V0 (m:Nat):VE m (ZQ m):=⟨by rw[ZQ,List.length_reverse,List.length_range],List.pairwise_reverse.mpr (List.nodup_range.imp λh=>Ne.symm h),λk h=>List.mem_range.mp (List.mem_reverse.mp h),λj h=>List.mem_reverse.mpr (List.mem_range.mpr h)⟩
def zu (m:Nat):List Nat:=(List.range m).map λk=>k*5 % m
theorem yj:∀m,m < 15->(zu m).Nodup->∀j,j < m->j∈zu m:=by decide+kernel
theorem Va {m:Nat} (hm:m<=14) (h0:0 < m) (h:(zu m).Nodup):VE m (zu m):=
 ⟨by rw[zu,List.length_map,List.length_range],h,λk hk=>by obtain⟨x,_,rfl⟩:=List.mem_map.mp hk;exact Nat.mod_lt _ h0,yj m (by omega) h⟩
theorem Xi (val:Nat->Int):∀i,(firstMet val i).length=i->((List.range i).map val).Nodup
 | 0,_=>List.nodup_nil
 | i+1,h=>by
   have h1:=firstMet_any val i (val i)
   have h2:=firstMet_length_le val i
   rw[firstMet_succ]at h
   unfold step_dedup at h
   split at h
   . omega
   . rename_i z
     rw[List.length_append,List.length_singleton]at h
     rw[List.range_succ,List.map_append,List.nodup_append]
     refine⟨Xi val i (by omega),by simp,λa ha b hb e=>?_⟩
     have eb:b=val i:=by simpa using hb
     subst eb
     subst e
     refine z ?_
     rw[h1,List.any_eq_true]
     exact⟨_,ha,by simp⟩
theorem RJ {os:List Nat} (h:¬(firstMet (λi=>(os.map λk=>((k:Nat):Int)).getD i 0) (os.map λk=>((k:Nat):Int)).length).length < os.length):os.Nodup:=by
 have h1:=firstMet_length_le (λi=>(os.map λk=>((k:Nat):Int)).getD i 0) (os.map λk=>((k:Nat):Int)).length
 have h2:=Xi (λi=>(os.map λk=>((k:Nat):Int)).getD i 0) (os.map λk=>((k:Nat):Int)).length (by rw[List.length_map]at h1 h ⊢;omega)
 have e:(List.range (os.map λk=>((k:Nat):Int)).length).map (λi=>(os.map λk=>((k:Nat):Int)).getD i 0)=os.map λk=>((k:Nat):Int):=by
   refine List.ext_getElem? λi=>?_
   rw[List.getElem?_map]
   by_cases hi:i < (os.map λk=>((k:Nat):Int)).length
   . rw[List.getElem?_range hi,List.getElem?_eq_getElem hi]
     simp only[Option.map_some,List.getD_eq_getElem?_getD,List.getElem?_eq_getElem hi,Option.getD_some]
   . rw[List.getElem?_eq_none (by rw[List.length_range];omega),List.getElem?_eq_none (by omega)]
     rfl
 rw[e]at h2
 refine(List.pairwise_map.mp h2).imp λh e=>h (by rw[e])
end Rh
set_option Elab.async false
set_option linter.all false
set_option maxRecDepth 100000
set_option maxHeartbeats 4000000
namespace Rh
open PySem L2 PyProof.Rows
def jE (H:Hp) (ps:List Addr) (rs:List (Str×List Str)):Prop:=ps.length=rs.length/\∀(i:Nat) (p:Addr) (r:Str×List Str),ps[i]?=some p->rs[i]?=some r->∃q,H p=some (.tup [.str r.1,.ref q])/\H q=some (.tup (r.2.map V.str))
def yJ:Sp:=λvs H Q _=>∃(d:Addr) (mo:Nat) (n s t:Int),vs=[.ref d,.int mo]/\H d=some (.dK (src n s t))/\0 < mo/\mo<=14/\
 ∀(l:Addr) (ps:List Addr) (rs:List (Str×List Str)) (n' t':Int) (H':Hp),H l=none->H' l=some (.lst (ps.map V.ref))->jE H' ps rs->qB rs->0 < rs.length->rs.length<=mo->H' d=some (.dK (src n' s t'))->Fr H d H'->Q (.ref l) H'
structure Qv (mg:Str->Option Value):Prop where
 srt:mg "sorted"=none
 lst:mg "list"=none
 rev:mg "reversed"=none
 set:mg "set"=none
 tup:mg "tuple"=none
theorem jE.mono {H H':Hp} {ps:List Addr} {rs:List (Str×List Str)} (h:jE H ps rs) (s:Same H H'):jE H' ps rs:=⟨h.1,λi p r e1 e2=>let ⟨q,a,b⟩:=h.2 i p r e1 e2;⟨q,s _ _ a,s _ _ b⟩⟩
theorem Zc.mono {H H':Hp} {ps:List Addr} {ks:List (Nat×Nat)} (h:Zc H ps ks) (s:Same H H'):Zc H' ps ks:=⟨h.1,λi p k e1 e2=>s _ _ (h.2 i p k e1 e2)⟩
theorem Fr.same {H H' H'':Hp} {d:Addr} (h:Fr H d H') (s:Same H' H''):Fr H d H'':=λb u hb hn=>s _ _ (h b u hb hn)
theorem jE.snoc {H:Hp} {ps:List Addr} {rs:List (Str×List Str)} (h:jE H ps rs) {p q:Addr} {r:Str×List Str} (hp:H p=some (.tup [.str r.1,.ref q])) (hq:H q=some (.tup (r.2.map V.str))):jE H (ps++[p]) (rs++[r]):=by
 refine⟨by rw[List.length_append,List.length_append,h.1];rfl,λi p' r' e1 e2=>?_⟩
 by_cases hi:i < ps.length
 . rw[List.getElem?_append_left hi]at e1
   rw[List.getElem?_append_left (by rw[<-h.1];exact hi)]at e2
   exact h.2 i p' r' e1 e2
 . have hi':i=ps.length:=by
     have:=(List.getElem?_eq_some_iff.mp e1).1
     rw[List.length_append,List.length_singleton]at this
     omega
   subst hi'
   rw[List.getElem?_append_right (Nat.le_refl _),Nat.sub_self]at e1
   rw[h.1,List.getElem?_append_right (Nat.le_refl _),Nat.sub_self]at e2
   obtain rfl:=(Option.some.inj e1).symm
   obtain rfl:=(Option.some.inj e2).symm
   exact⟨q,hp,hq⟩
theorem jE.upd_lst {H:Hp} {ps:List Addr} {rs:List (Str×List Str)} {l:Addr} {xs:List V} {o:HO} (h:jE H ps rs) (hl:H l=some (.lst xs)):jE (upd H l o) ps rs:=by
 refine⟨h.1,λi p r e1 e2=>?_⟩
 obtain⟨q,a,b⟩:=h.2 i p r e1 e2
 refine⟨q,?_,?_⟩
 . rw[qh (λe=>by rw[e,hl]at a;cases a)]
   exact a
 . rw[qh (λe=>by rw[e,hl]at b;cases b)]
   exact b
theorem Uc {tc:TT} {tp u:TS} {D:QS} {σ:L2.St} {H0:Hp} (R:Bool->Hp->Prop) (G:L2.St->Hp->Prop) (ht:∀Q:Bool->Hp->Prop,(∀b H1,R b H1->Q b H1)->tc σ H0 Q)
   (hT:∀H1,R true H1->∀D':QS,(∀σ' H',G σ' H'->D'.nx σ' H')->tp D' σ H1) (hF:∀H1,R false H1->G σ H1) (k:∀σ' H',G σ' H'->u D σ' H'):GJ (uq tc tp UJ) u D σ H0:=
 ht _ λb H1 r=>by
   cases b
   . exact jf (k _ _ (hF _ r))
   . exact jP (hT _ r _ k)
theorem K7 {zs:List Str} {j:Nat} (h:j < zs.length):vM (zs.map V.str) ((j:Nat):Int)=some (V.str (WK zs j)):=Zb (by rw[List.getElem?_map,XE h];rfl)
theorem yz {ks:List (Nat×Nat)} {j:Nat} {x:Nat×Nat} (k:Nat) (h:ks[j]?=some x):Y7 (ks.take (j+1)) k=Y7 (ks.take j) k++if x.1=k then [x.2] else []:=by
 unfold Y7
 rw[List.take_add_one,h,List.filter_append,List.map_append]
 congr 1
 by_cases e:x.1=k
 . rw[if_pos e]
   simp [e]
 . rw[if_neg e]
   simp [e]
abbrev oL (os:List Nat):List V:=os.map λk=>V.int ((k:Nat):Int)
theorem Kr (os:List Nat):oL os=(os.map λk=>((k:Nat):Int)).map V.int:=by rw[List.map_map];rfl
section
variable {P:Program} {w:World} {K:PySem.W.Frag} {mg:Str->Option Value} {base:Heap}
abbrev N9:List Str:=["_law_source_here","_law_most","_law_many","_law_names_here","_law_shape","_law_pairs","_law_about","_law_order","_law_rows_here","_law_k","_law_leads_here"]
theorem Qt:qr N9 ["_law_source_here","_law_most"] (qj U4):=⟨rfl,rfl,rfl,by decide+kernel,rfl,by decide+kernel,by decide+kernel⟩
abbrev Ms:List Str:=["_law_one","_law_j","_law_k","_law_names_here"]
theorem vH:Ms.Nodup:=by decide+kernel
theorem Kg {f fT fN fL:Addr} {fd fdT fdN fdL:FuncData} (F:jM K "_law_rows" "_law_rows" U4 f fd) (B:QJ mg) (G:Qv mg) (hT:jq K mg "_law_take" Yg ["_law_source_here","_law_many"] fT fdT)
   (hN:jq K mg "_law_names" Yj ["_law_source_here","_law_many"] fN fdN) (hL:jq K mg "_law_leads" Ym Yx fL fdL):qm P w K mg base qO 3 f fd ["_law_source_here","_law_most"] yJ:=by
 have GT:qm P w K mg base qO 1 fT fdT ["_law_source_here","_law_many"] Ya:=zQ hT.fn
 have GN:qm P w K mg base qO 2 fN fdN ["_law_source_here","_law_many"] UU:=xC hN.fn B hT
 have GL:qm P w K mg base qO 2 fL fdL Yx UV:=xF hL.fn B G.srt hT
 refine F.okJ Qt (λvs H Q E h=>?_) (λcdv A outer s H vs Q E hr h=>?_)
 . obtain⟨d,m,n,sd,t,rfl,_⟩:=h
   rfl
 . obtain⟨d,mo,n,sd,t,rfl,hd,hmo,hm14,q⟩:=h
   have r1:qW 1 _:=hr.mono (by decide)
   refine⟨_,qe (qw (i:=2) Qt.nd rfl (Or.inr rfl) (qN Q0 qi (qJ hT GT r1 (by rfl) (qb (jv 0) (qb (jv 1) qf)))))
     (qe (qw (i:=3) Qt.nd rfl (Or.inr rfl) (qJ hN GN hr (by rfl) (qb (jv 0) (qb (jv 2) qf))))
     (qe (qw (i:=4) Qt.nd rfl (Or.inl rfl) (qJ hT GT r1 (by rfl) (qb (jv 0) (qb qi qf))))
     (qe (qw (i:=5) Qt.nd rfl (Or.inl rfl) (qJ hL GL hr (by rfl) (qb (jv 0) (qb (jv 2) (qb (jv 4) (qb (qN Q0 qi (qJ hT GT r1 (by rfl) (qb (jv 0) (qb qi qf)))) qf))))))
     (qe (qw (i:=6) Qt.nd rfl (Or.inl rfl) (ju Qe (qJ hT GT r1 (by rfl) (qb (jv 0) (qb qi qf))) qi (qy _)))
     (qe (qw (i:=7) Qt.nd rfl (Or.inl rfl) (Mh rfl (by rfl) G.lst (by rfl) B.rng (jv 2)))
     (qe (qM (jd (jv 6)) (qg (Qr (i:=7) (N':=["_law_k","_law_many"]) (ix:=[none,some 2]) Qt.nd rfl (Or.inl rfl) rfl ⟨rfl,rfl,rfl,rfl,rfl⟩ (jp (by rfl) B.rng (qb (jv 2) qf))
         (λC s2 H2 fp pins=>⟨qt (i:=0) (show (["_law_k","_law_many"]:List Str).Nodup by decide+kernel) rfl (Or.inl rfl),jO,qN QZ (qN Jn (jv 0) qi) (jv 1)⟩))) qz)
     (qe (qM (qu QN (qA VA (by rfl) B.len boot_len (qb (j4 (yo rfl) (by rfl) G.set boot_set (qb (jv 7) qf)) qf)) (jv 2) (qy _))
         (qg (qw (i:=7) Qt.nd rfl (Or.inl rfl) (RW rfl (by rfl) G.lst (by rfl) G.rev (by rfl) B.rng (jv 2)))) qz)
     (qe (qw (i:=8) Qt.nd rfl (Or.inl rfl) (jD qf))
     (qe (jc PassesOwn.never rfl (qH (jv 7)) (qt (i:=9) Qt.nd rfl (Or.inr rfl))
       (qe (Qr (i:=10) (N':=Ms) (ix:=[none,none,some 9,some 3]) (g:=R4 K 2 (Vs (QP 0) (Vs (QP 1) R6))) (te:=zH (Rq K) (qU 3) (qU 1)) Qt.nd rfl (Or.inl rfl) rfl ⟨rfl,rfl,rfl,rfl,rfl⟩ (qH (jv 5))
           (λC s2 H2 fp pins=>⟨YI rfl (jT (qt (i:=0) vH rfl (Or.inl rfl)) (jT (qt (i:=1) vH rfl (Or.inl rfl)) ZL)),
             jy (qu Qe (jv 0) (jv 2) (qy _)),qZ jY (jv 3) (jv 1) (λ_ _=>rfl)⟩))
       (qe (qM (jd (jv 6)) (qg (jz (wp PySem.F.plainAttrs_list PySem.F.slot_list_reverse PySem.F.type_list_reverse V6 (jv 10)))) qz)
       (qg (jz (Vo PySem.F.plainAttrs_list PySem.F.slot_list_append PySem.F.type_list_append J7 (jv 8) (qb
         (jC (qb (qZ jY (jv 3) (jv 9) (λ_ _=>rfl)) (qb (j4 Y1 (by rfl) G.tup boot_tuple (qb (jv 10) qf)) qf))) qf)))))))
     (qg (qv (jv 8)))))))))))),?_⟩
   refine⟨_,rfl,_,rfl,d,mo,n,sd,t,rfl,hd,by omega,by omega,λr n1 t1 r0 r1=>⟨_,_,rfl,rfl,?_⟩⟩
   obtain⟨m,em,m0,m1⟩:∃m:Nat,1+r=(m:Int)/\0 < m/\m<=mo:=⟨(1+r).toNat,by omega,by omega,by omega⟩
   have em':(λi j:Int=>V.int (i+j)) 1 r=V.int (m:Int):=congrArg V.int em
   rw[em']
   refine⟨_,rfl,_,rfl,d,m,n1,sd,t1,rfl,qd,by omega,λlz zs n2 t2 H2 hlz hlz' zl zn znd hd2 fr2=>?_⟩
   have fr2:Fr H d H2:=Fr.refl.at_d.trans fr2
   refine⟨_,rfl,d,5,n2,sd,t2,rfl,hd2,by decide,by decide,λsh n3 t3 _ _=>?_⟩
   refine⟨_,rfl,_,rfl,_,rfl,_,rfl,d,5,n3,sd,t3,rfl,qd,by decide,by decide,λlw n4 t4 _ _=>⟨_,_,rfl,rfl,d,m,n4,sd,t4,sh,1+lw,rfl,qd,by omega,λlp ps ks n5 t5 H5 hlp hlp' pat kord klt k40 hd5 fr5=>?_⟩⟩
   have nzd:lz≠d:=λe=>by rw[e,qd]at hlz;cases hlz
   have hz5:H5 lz=some (.lst (zs.map V.str)):=fr5 _ _ (by rw[qh nzd,qh nzd];exact hlz') nzd
   have fr5:Fr H d H5:=fr2.at_d.at_d.trans fr5
   refine⟨_,rfl,d,2,n5,sd,t5,rfl,hd5,by decide,by decide,λab n6 t6 _ _=>⟨rfl,?_⟩⟩
   generalize decide (V.int ab=V.int 1)=b
   have npd:lp≠d:=λe=>by rw[e,qd]at hlp;cases hlp
   have fr6:Fr H d (upd H5 d (.dK (src n6 sd t6))):=fr5.at_d
   have hd6:upd H5 d (.dK (src n6 sd t6)) d=some (.dK (src n6 sd t6)):=qd
   have hz6:upd H5 d (.dK (src n6 sd t6)) lz=some (.lst (zs.map V.str)):=by rw[qh nzd];exact hz5
   have hp6:upd H5 d (.dK (src n6 sd t6)) lp=some (.lst (ps.map V.ref)):=by rw[qh npd];exact hlp'
   have pat6:Zc (upd H5 d (.dK (src n6 sd t6))) ps ks:=⟨pat.1,λi p k e1 e2=>by
     have h1:=pat.2 i p k e1 e2
     have:p≠d:=λe=>by rw[e,hd5]at h1;cases h1
     rw[qh this]
     exact h1⟩
   generalize upd H5 d (.dK (src n6 sd t6))=H6 at fr6 hd6 hz6 hp6 pat6
   refine⟨_,rfl,m,rfl,by omega,λlo hlo=>?_⟩
   refine YK ?_
   dsimp only[List.set]
   refine Uc (λc H'=>c=b/\H'=upd H6 lo (.lst (K9 m))) (λσ' H'=>∃lo os,σ'=[some (.ref d),some (.int mo),some (.int m),some (.ref lz),some (.int sh),some (.ref lp),some (.bl b),some (.ref lo),none,none,none]/\Same H6 H'/\H6 lo=none/\H' lo=some (.lst (oL os))/\(os=List.range m\/os=zu m))
     (λQ k=>⟨_,rfl,b,rfl,k _ _ ⟨rfl,rfl⟩⟩) ?_ ?_ ?_
   . rintro H1 ⟨rfl,rfl⟩ D' k
     refine⟨_,rfl,m,rfl,by omega,by omega,λD hD=>?_⟩
     refine Za (λi σ' H'=>∃v:Option V,σ'=[v,some (.int m)]/\H'=upd (upd H6 lo (.lst (K9 m))) D (.lst (oL ((List.range i).map λk=>k*5 % m)))) ⟨none,rfl,rfl⟩ ?_ ?_
     . rintro i σ' H' hi ⟨v,rfl,rfl⟩
       rw[Int.zero_add]
       have hi:i < m:=by simpa using hi
       refine⟨_,rfl,_,_,rfl,rfl,.inl ⟨by omega,by omega⟩,_,rfl,_,_,rfl,rfl,(by show (0:Int) < m;omega),_,qd,?_,_,rfl,?_⟩
       . rw[List.length_map,List.length_map,List.length_range]
         exact qp (by omega)
       . rw[jr,List.range_succ,List.map_append,oL,oL,List.map_append]
         rfl
     . rintro σ' H' ⟨v,rfl,rfl⟩
       have hD6:H6 D=none:=by
         by_cases e:D=lo
         . rw[e];exact hlo
         . rw[qh e]at hD;exact hD
       exact k _ _ ⟨D,zu m,rfl,λa u h=>ql (ql h hlo) hD,hD6,qd,.inr rfl⟩
   . rintro H1 ⟨rfl,rfl⟩
     exact⟨lo,List.range m,rfl,qk hlo,hlo,qd,.inl rfl⟩
   rintro σ' H7 ⟨lo,os,rfl,s7,hlo6,hlo7,hos⟩
   have los:os.length=m:=by
     rcases hos with rfl | rfl
     . exact List.length_range
     . rw[zu,List.length_map,List.length_range]
   refine Uc (λc H'=>Same H7 H'/\(c=true\/os.Nodup)) (λσ' H'=>∃lo os,σ'=[some (.ref d),some (.int mo),some (.int m),some (.ref lz),some (.int sh),some (.ref lp),some (.bl b),some (.ref lo),none,none,none]/\Same H6 H'/\H' lo=some (.lst (oL os))/\VE m os)
     ?_ ?_ ?_ ?_
   . intro Q k
     refine⟨_,rfl,lo,os.map (λk=>((k:Nat):Int)),rfl,.of (by rw[<-Kr];exact hlo7),by rw[List.length_map,los];omega,λl S hl=>?_⟩
     refine⟨l,S,_,rfl,qd,_,rfl,_,_,rfl,rfl,_,rfl,k _ _ ⟨qk hl,?_⟩⟩
     by_cases h:(((firstMet (λi=>(os.map λk=>((k:Nat):Int)).getD i 0) (os.map λk=>((k:Nat):Int)).length).length:Nat):Int) < (m:Int)
     . exact .inl (decide_eq_true h)
     . exact .inr (RJ (by rw[los];omega))
   . rintro H1 ⟨s1,_⟩ D' k
     refine⟨_,rfl,m,rfl,by omega,λl hl=>?_⟩
     exact k _ _ ⟨l,ZQ m,rfl,λa u h=>ql (s1 _ _ (s7 _ _ h)) hl,qd,V0 m⟩
   . rintro H1 ⟨s1,h⟩
     have h:os.Nodup:=h.resolve_left (by decide)
     refine⟨lo,os,rfl,λa u h=>s1 _ _ (s7 _ _ h),s1 _ _ hlo7,?_⟩
     rcases hos with rfl | rfl
     . exact xm m
     . exact Va (by omega) m0 h
   rintro σ' H8 ⟨lo,os,rfl,s8,hlo8,ho⟩
   refine⟨by show 0<=sizeLine;decide,λlr hlr=>⟨_,rfl,lo,rfl,⟨_,.of (ql hlo8 hlr)⟩,?_⟩⟩
   refine jm (K:=K) (a:=lo) (xs:=oL os) (λi σ' H'=>∃(v9 v10:Option V) (qs:List Addr),σ'=[some (.ref d),some (.int mo),some (.int m),some (.ref lz),some (.int sh),some (.ref lp),some (.bl b),some (.ref lo),some (.ref lr),v9,v10]/\
     Same H8 H'/\H' lr=some (.lst (qs.map V.ref))/\jE H' qs ((os.take i).map (Jc zs ks b)))
     ⟨none,none,[],rfl,qk hlr,qd,rfl,λi p r e=>(nomatch e)⟩ (λi σ' H' _ ⟨_,_,_,_,s,_⟩=>.of (s _ _ hlo8)) ?_ ?_
   . rintro i x σ' H' hx ⟨v9,v10,qs,rfl,s9,hlr9,rat⟩
     have hix:i < os.length:=by
       have:=(List.getElem?_eq_some_iff.mp hx).1
       rwa [List.length_map]at this
     obtain⟨k,hk⟩:∃k,os[i]?=some k:=⟨_,List.getElem?_eq_getElem hix⟩
     have ex:x=V.int ((k:Nat):Int):=by
       rw[List.getElem?_map,hk]at hx
       exact(Option.some.inj hx).symm
     subst ex
     have hkm:k < m:=ho.lt k (List.mem_of_getElem? hk)
     refine⟨_,rfl,lp,rfl,⟨_,.of (s9 _ _ (s8 _ _ hp6))⟩,λD hD=>?_⟩
     have nDr:D≠lr:=λe=>by rw[e,hlr9]at hD;cases hD
     have hz9:H' lz=some (.lst (zs.map V.str)):=s9 _ _ (s8 _ _ hz6)
     have pat9:Zc H' ps ks:=pat6.mono λa u h=>s9 _ _ (s8 _ _ h)
     refine jL (K:=K) (a:=lp) (xs:=ps.map V.ref) (λj σ'' H''=>∃v0 v1:Option V,σ''=[v0,v1,some (.int k),some (.ref lz)]/\H''=upd H' D (.lst (((Y7 (ks.take j) k).map (WK zs)).map V.str))) ⟨none,none,rfl,rfl⟩
       (λj σ'' G _ ⟨_,_,_,e⟩=>e▸.of (ql (s9 _ _ (s8 _ _ hp6)) hD)) ?_ ?_
     . rintro j y σ'' G hy ⟨v0,v1,rfl,rfl⟩
       have hj:j < ps.length:=by
         have:=(List.getElem?_eq_some_iff.mp hy).1
         rwa [List.length_map]at this
       obtain⟨p,hp⟩:∃p,ps[j]?=some p:=⟨_,List.getElem?_eq_getElem hj⟩
       obtain⟨kk,hkk⟩:∃p,ks[j]?=some p:=⟨_,List.getElem?_eq_getElem (by rw[<-pat9.1];exact hj)⟩
       have ey:y=V.ref p:=by
         rw[List.getElem?_map,hp]at hy
         exact(Option.some.inj hy).symm
       subst ey
       have hpt:=pat9.2 j p kk hp hkk
       have hk2:kk.2 < zs.length:=by rw[zl];exact(klt kk (List.mem_of_getElem? hkk)).2
       refine⟨p,_,rfl,.of (ql hpt hD),rfl,_,_,rfl,_,_,rfl,rfl,_,rfl,_,rfl,rfl,_,rfl,?_⟩
       rw[yz k hkk]
       by_cases e:kk.1=k
       . have e1:decide (V.int ((kk.1:Nat):Int)=V.int ((k:Nat):Int))=true:=decide_eq_true (by rw[e])
         rw[e1,if_pos e]
         refine jP ⟨_,rfl,_,rfl,lz,_,_,_,rfl,rfl,.of (ql hz9 hD),K7 hk2,_,qd,?_,_,_,rfl,?_⟩
         . rw[List.length_map,List.length_map]
           refine qp ?_
           have h1:(Y7 (ks.take j) k).length<=(ks.take j).length:=by
             unfold Y7
             rw[List.length_map]
             exact List.length_filter_le _ _
           rw[List.length_take]at h1
           omega
         . rw[jr,List.map_append,List.map_append]
           rfl
       . have e1:decide (V.int ((kk.1:Nat):Int)=V.int ((k:Nat):Int))=false:=decide_eq_false (by
           intro z
           have:=V.int.inj z
           omega)
         rw[e1,if_neg e,List.append_nil]
         exact jf ⟨_,_,rfl,rfl⟩
     . rintro σ'' G ⟨v0,v1,rfl,rfl⟩
       rw[List.length_map,pat9.1,List.take_of_length_le (Nat.le_refl _)]
       refine YK ?_
       dsimp only[List.set]
       refine Uc (λc G=>c=b/\G=upd H' D (.lst (((Y7 ks k).map (WK zs)).map V.str)))
         (λσ' G=>σ'=[some (.ref d),some (.int mo),some (.int m),some (.ref lz),some (.int sh),some (.ref lp),some (.bl b),some (.ref lo),some (.ref lr),some (.int k),some (.ref D)]/\G=upd H' D (.lst ((Jc zs ks b k).2.map V.str)))
         (λQ k=>⟨_,rfl,b,rfl,k _ _ ⟨rfl,rfl⟩⟩) ?_ ?_ ?_
       . rintro H1 ⟨rfl,rfl⟩ D' kk
         refine⟨_,rfl,.inl ⟨rfl,_,.of qd⟩,D,_,rfl,rfl,qd,?_⟩
         refine kk _ _ ⟨rfl,?_⟩
         rw[jr,Jc,if_pos rfl,List.map_reverse]
       . rintro H1 ⟨rfl,rfl⟩
         exact⟨rfl,rfl⟩
       rintro σ' G ⟨rfl,rfl⟩
       have hlrG:upd H' D (.lst ((Jc zs ks b k).2.map V.str)) lr=some (.lst (qs.map V.ref)):=by rw[qh (Ne.symm nDr)];exact hlr9
       have sG:Same H' (upd H' D (.lst ((Jc zs ks b k).2.map V.str))):=qk hD
       refine⟨_,rfl,.inl ⟨rfl,_,.of hlrG⟩,_,rfl,_,rfl,lz,_,_,_,rfl,rfl,.of (sG _ _ hz9),K7 (by rw[zl];exact hkm),_,rfl,D,_,rfl,.inl ⟨.of qd,λlq hq=>⟨by show 2<=sizeLine;decide,λlt hlt=>?_⟩⟩⟩
       have hqlr:=ql (o':=HO.tup ((Jc zs ks b k).2.map V.str)) hlrG hq
       have htlr:=ql (o':=HO.tup [V.str (WK zs k),V.ref lq]) hqlr hlt
       refine⟨lr,_,_,rfl,rfl,htlr,?_,_,_,qs++[lt],rfl,?_,?_,?_⟩
       . rw[List.length_map,rat.1,List.length_map,List.length_take]
         refine qp ?_
         have:=ho.len
         omega
       . exact Same.upd (λa u h=>ql (ql (sG _ _ (s9 _ _ h)) hq) hlt) hlr
       . rw[List.map_append]
         exact qd
       . have e:os.take (i+1)=os.take i++[k]:=by rw[List.take_add_one,hk];rfl
         rw[e,List.map_append]
         refine jE.upd_lst ?_ htlr
         exact jE.snoc (q:=lq) (rat.mono λa u h=>ql (ql (sG _ _ h) hq) hlt) qd (ql qd hlt)
   . rintro σ' H' ⟨v9,v10,qs,rfl,s9,hlr9,rat⟩
     have e:(oL os).length=os.length:=List.length_map ..
     rw[e,List.take_of_length_le (Nat.le_refl _)]at rat
     have h8:H6 lr=none:=by
       cases z:H6 lr with
       | none=>rfl
       | some u=>rw[s8 _ _ z]at hlr;cases hlr
     refine⟨_,rfl,q lr qs _ n6 t6 H' (fr6.fresh hd6 h8) hlr9 rat (yd b zl zn znd kord klt k40 ho) ?_ ?_ (s9 _ _ (s8 _ _ hd6)) (fr6.same λa u h=>s9 _ _ (s8 _ _ h))⟩
     . rw[List.length_map,ho.len];exact m0
     . rw[List.length_map,ho.len];exact m1
end
end Rh
set_option Elab.async false
set_option linter.all false
set_option maxRecDepth 100000
set_option maxHeartbeats 4000000
namespace Rh
open PySem L2 PyProof.Rows
abbrev Xe:Stmt:=top 21
abbrev Yp:Stmt:=top 22
abbrev U6:Stmt:=top 23
abbrev uT:Stmt:=top 24
abbrev U7:Stmt:=top 25
abbrev uW:Stmt:=top 26
abbrev W2:Stmt:=top 27
theorem RD (x:Str):[x].Nodup:=by simp
structure QQ (K:PySem.W.Frag) (mg:Str->Option Value):Prop where
 isi:mg "isinstance"=none
 str:mg "str"=none
 all:mg "all"=none
 enu:mg "enumerate"=none
 sum:mg "sum"=none
 lets:∃t,mg "LETTERS"=some (.str vP t)
 lgst:∃t,mg "LONGEST_NAME"=some (.int 8 t)
 mp:∃t,mg "MOST_PLACES"=some (.int 14 t)
 mr:∃t,mg "MOST_ROADS"=some (.int 40 t)
 kss:PySem.W.kitOne K (.type "str") (.type "str")=some true
 ktt:PySem.W.kitOne K (.type "tuple") (.type "tuple")=some true
 kll:PySem.W.kitOne K (.type "list") (.type "list")=some true
theorem R3 (c:Nat):(!(Builtin.Str.occurrences vP ⟨#[c]⟩ 0 vP.length 1).isEmpty)=jB c:=by
 rw[StrLaws.found_one,wW]
 unfold jB
 rw[Bool.eq_iff_iff]
 simp only[decide_eq_true_eq,Bool.and_eq_true,List.mem_map,List.mem_range]
 constructor
 . rintro⟨k,hk,rfl⟩
   omega
 . intro h
   exact⟨c - 97,by omega,by omega⟩
theorem wV (f:Nat->Bool) (l:List Nat) (i c:Nat) (h:l[i]?=some c):(l.take i).map f++[f c]=(l.take (i+1)).map f:=by
 rw[List.take_add_one,h]
 simp
def uz:Sp:=λvs H Q _=>∃z,vs=[.str z]/\jo z=true/\∀H',Same H H'->Q (.bl true) H'
def NM:Sp:=λvs H Q _=>∃(q:Addr) (zs:List Str),vs=[.ref q]/\H q=some (.tup (zs.map V.str))/\(∀z∈zs,jo z=true)/\zs.length<=1000/\∀H',Same H H'->Q (.bl true) H'
def Ge:Sp:=λvs H Q _=>∃(p q:Addr) (r:Str×List Str),vs=[.ref p]/\H p=some (.tup [.str r.1,.ref q])/\H q=some (.tup (r.2.map V.str))/\jo r.1=true/\(∀z∈r.2,jo z=true)/\r.2.length<=1000/\∀H',Same H H'->Q (.bl true) H'
structure Qw (H:Hp) (l:Addr) (ps:List Addr) (rs:List (Str×List Str)):Prop where
 at_:H l=some (.lst (ps.map V.ref))
 rows:jE H ps rs
 good:qB rs
 pos:0 < rs.length
 le:rs.length<=14
theorem Qw.mono {H H':Hp} {l:Addr} {ps:List Addr} {rs:List (Str×List Str)} (h:Qw H l ps rs) (s:Same H H'):Qw H' l ps rs:=⟨s _ _ h.at_,h.rows.mono s,h.good,h.pos,h.le⟩
theorem qB.names {rs:List (Str×List Str)} (h:qB rs):∀r∈rs,∀z∈r.2,jo z=true:=λr hr z hz=>by
 obtain⟨r',hr',rfl⟩:=List.mem_map.mp (h.to r hr z hz)
 exact h.nm r' hr'
theorem qB.len {rs:List (Str×List Str)} (h:qB rs):∀r∈rs,r.2.length<=40:=λr hr=>by
 refine Nat.le_trans ?_ h.few
 have:∀(rs:List (Str×List Str)),r∈rs->r.2.length<=(rs.map λr=>r.2.length).sum:=by
   intro rs
   induction rs with
   | nil=>intro h;cases h
   | cons a rs ih=>
     intro h
     rw[List.map_cons,List.sum_cons]
     rcases List.mem_cons.mp h with rfl | h
     . omega
     . have:=ih h
       omega
 exact this rs hr
theorem jE.item {H:Hp} {ps:List Addr} {rs:List (Str×List Str)} (h:jE H ps rs) {i:Nat} {x:V} (hx:(ps.map V.ref)[i]?=some x):∃p q r,x=.ref p/\rs[i]?=some r/\r∈rs/\H p=some (.tup [.str r.1,.ref q])/\H q=some (.tup (r.2.map V.str)):=by
 rw[List.getElem?_map]at hx
 cases e:ps[i]? with
 | none=>rw[e]at hx;cases hx
 | some p=>
   rw[e]at hx
   have hi:i < rs.length:=by
     have:=(List.getElem?_eq_some_iff.mp e).1
     rw[h.1]at this
     exact this
   obtain⟨q,a,b⟩:=h.2 i p _ e (List.getElem?_eq_getElem hi)
   exact⟨p,q,_,(Option.some.inj hx).symm,List.getElem?_eq_getElem hi,List.getElem_mem hi,a,b⟩
def ZZ:Sp:=λvs H Q _=>∃(l:Addr) (ps:List Addr) (rs:List (Str×List Str)),vs=[.ref l]/\Qw H l ps rs/\∀H',Same H H'->Q .non H'
def Gf:Sp:=λvs H Q _=>∃(l:Addr) (zs:List Str),vs=[.ref l]/\H l=some (.lst (zs.map V.str))/\zs.Nodup/\zs.length<=1000/\∀H',Same H H'->Q .non H'
def yP:Sp:=λvs H Q _=>∃(q l:Addr) (es zs:List Str),vs=[.ref q,.ref l]/\H q=some (.tup (es.map V.str))/\H l=some (.lst (zs.map V.str))/\es.Nodup/\(∀z∈es,z∈zs)/\es.length<=900/\∀H',Same H H'->Q .non H'
theorem Q8 {kvs:List (qE×V)} {k:qE} (h:¬k∈kvs.map (·.1)):ja kvs k=none:=by
 cases e:ja kvs k with
 | none=>rfl
 | some v=>exact absurd (ui e) h
theorem zc (zs:List Str):(zs.map V.str).all JB=true:=by
 rw[List.all_map,List.all_eq_true]
 intro z _
 rfl
theorem Ww {z:Str} {zs:List Str} (h:z∈zs):ZM (.str z) (zs.map V.str)=true:=by
 unfold ZM
 rw[List.any_eq_true]
 exact⟨.str z,List.mem_map.mpr ⟨z,h,rfl⟩,by show (z==z)=true;simp⟩
section
variable {P:Program} {w:World} {K:PySem.W.Frag} {mg:Str->Option Value} {base:Heap}
theorem Rf:qr ["thing"] ["thing"] (qj ZA):=⟨rfl,rfl,rfl,by decide+kernel,rfl,by decide+kernel,by decide+kernel⟩
theorem Wm {f:Addr} {fd:FuncData} (F:jM K "is_name" "is_name" ZA f fd) (B:QJ mg) (T:QQ K mg):qm P w K mg base qO 1 f fd ["thing"] uz:=by
 refine F.okJ Rf (λvs H Q E h=>?_) (λcdv A outer s H vs Q E hr h=>?_)
 . obtain⟨x,rfl,_⟩:=h
   rfl
 . obtain⟨z,rfl,hz,q⟩:=h
   obtain⟨tl,hlets⟩:=T.lets
   obtain⟨tg,hlg⟩:=T.lgst
   refine⟨_,qe (qM (j9 (jd (qA ji (by rfl) T.isi boot_isinstance (qb (jv 0) (qb (Qn (v:=.ty "str") (by rfl) T.str boot_str rfl) qf))))) (qg (qv jG)) qz)
     (qe (qM (QO (qu QN (qA Jv (by rfl) B.len boot_len (qb (jv 0) qf)) qi (qy _))
         (Qh (qu zo (qA Jv (by rfl) B.len boot_len (qb (jv 0) qf)) (QD (v:=.int 8) (by rfl) hlg ⟨_,rfl⟩) (qy _)))).pt (qg (qv jG)) qz)
     (qg (qv (qA (zf rfl) (by rfl) T.all boot_all (qb (j3 (N':=["sign"]) (ix:=[none]) rfl ⟨rfl,rfl,rfl,rfl,rfl⟩ (RU (jv 0)) (λC s2 H2 fp pins=>
       ⟨qt (i:=0) (RD _) rfl (Or.inl rfl),jO,ju kI (jv 0) (QD (v:=.str vP) (by rfl) hlets ⟨_,rfl⟩) (by with_unfolding_all rfl)⟩)) qf))))),?_⟩
   have hn:=hz
   unfold jo at hn
   simp only[Bool.and_eq_true,decide_eq_true_eq]at hn
   obtain⟨⟨n1,n8⟩,na⟩:=hn
   have hz':z.length<=sizeLine:=Nat.le_of_lt (qp (by omega))
   refine⟨_,rfl,_,_,_,_,rfl,rfl,.str z,T.kss,_,rfl,jf ?_⟩
   refine⟨_,rfl,z,rfl,hz',_,_,rfl,rfl,_,rfl,?_⟩
   refine k6 (λh=>?_) (λh=>?_)
   . exact absurd (of_decide_eq_true h) (by omega)
   . refine⟨_,rfl,z,rfl,hz',_,_,rfl,rfl,_,rfl,?_⟩
     refine k6 (λh2=>?_) (λh2=>?_)
     . exact absurd (of_decide_eq_true h2) (by show ¬(8:Int) < (z.length:Int);omega)
     . refine⟨_,rfl,z,rfl,λD hD=>?_⟩
       refine KS (λi σ' H'=>∃v,σ'=[v]/\H'=upd H D (.lst (((z.cps.toList.take i).map jB).map V.bl))) ⟨none,rfl,rfl⟩ ?_ ?_
       . rintro i c σ' H' hc ⟨v,rfl,rfl⟩
         refine⟨_,rfl,_,_,rfl,rfl,_,qd,?_,?_⟩
         . rw[List.length_map,List.length_map,List.length_take]
           exact Nat.lt_of_le_of_lt (Nat.min_le_right _ _) (qp (show z.cps.toList.length<=1000 by rw[Array.length_toList];exact Nat.le_trans n8 (by decide)))
         . refine⟨_,rfl,?_⟩
           rw[jr,R3]
           have hc':z.cps.toList[i]?=some c:=by simpa using hc
           rw[<-wV jB z.cps.toList i c hc',List.map_append]
           rfl
       . rintro σ' H' ⟨v,rfl,rfl⟩
         refine⟨D,_,rfl,.of qd,?_⟩
         have e0:z.cps.toList.take z.cps.size=z.cps.toList:=List.take_of_length_le (by simp)
         have e1:(z.cps.toList.map jB).all id=true:=by rw[List.all_map];exact na
         rw[e0,e1]
         exact q _ (qk hD)
theorem Re:qr ["thing"] ["thing"] (qj Xe):=⟨rfl,rfl,rfl,by decide+kernel,rfl,by decide+kernel,by decide+kernel⟩
theorem Kf {f fN:Addr} {fd fdN:FuncData} (F:jM K "is_tuple_of_names" "is_tuple_of_names" Xe f fd) (B:QJ mg) (G:Qv mg) (T:QQ K mg) (hN:jq K mg "is_name" ZA ["thing"] fN fdN):qm P w K mg base qO 2 f fd ["thing"] NM:=by
 have GN:qm P w K mg base qO 1 fN fdN ["thing"] uz:=Wm hN.fn B T
 refine F.okJ Re (λvs H Q E h=>?_) (λcdv A outer s H vs Q E hr h=>?_)
 . obtain⟨x,zs,rfl,_⟩:=h
   rfl
 . obtain⟨x,zs,rfl,hx,hz,hl,q⟩:=h
   refine⟨_,qg (qv (JU (qA ji (by rfl) T.isi boot_isinstance (qb (jv 0) (qb (Qn (v:=.ty "tuple") (by rfl) G.tup boot_tuple rfl) qf)))
     (Z9 (qA (zf rfl) (by rfl) T.all boot_all (qb (j3 (N':=["part"]) (ix:=[none]) rfl ⟨rfl,rfl,rfl,rfl,rfl⟩ (Z8 (jv 0)) (λC s2 H2 fp pins=>
       ⟨qt (i:=0) (RD _) rfl (Or.inl rfl),jO,qJ hN GN hr (by rfl) (qb (jv 0) qf)⟩)) qf))))),?_⟩
   refine⟨_,rfl,_,_,_,_,rfl,rfl,.tup hx,T.ktt,_,rfl,jP ⟨_,rfl,x,rfl,⟨_,.of hx⟩,λD hD=>?_⟩⟩
   refine vI (K:=K) (a:=x) (xs:=zs.map V.str) (λi σ' H'=>∃v,σ'=[v]/\Same H H'/\H' D=some (.lst ((List.replicate i true).map V.bl))) ⟨none,rfl,qk hD,qd⟩ (λi σ' H' _ ⟨_,_,s,_⟩=>.of (s _ _ hx)) ?_ ?_
   . rintro i y σ' H' hy ⟨v,rfl,s1,hD1⟩
     rw[List.getElem?_map]at hy
     cases e:zs[i]? with
     | none=>rw[e]at hy;cases hy
     | some z=>
       rw[e]at hy
       obtain rfl:=(Option.some.inj hy).symm
       have hi:=(List.getElem?_eq_some_iff.mp e).1
       refine⟨_,rfl,z,rfl,hz z (List.mem_of_getElem? e),λH2 s2=>⟨_,s2 _ _ hD1,?_,_,rfl,?_,?_⟩⟩
       . rw[List.length_map,List.length_replicate]
         exact qp (by omega)
       . exact Same.upd (s1.trans s2) hD
       . rw[qd,List.replicate_succ',List.map_append]
         rfl
   . rintro σ' H' ⟨v,rfl,s1,hD1⟩
     refine⟨D,_,rfl,.of hD1,?_⟩
     have e:(List.replicate (zs.map V.str).length true).all id=true:=by simp
     rw[e]
     exact q _ s1
theorem uO:qr ["thing"] ["thing"] (qj Yp):=⟨rfl,rfl,rfl,by decide+kernel,rfl,by decide+kernel,by decide+kernel⟩
theorem xH {f fN fP:Addr} {fd fdN fdP:FuncData} (F:jM K "is_row" "is_row" Yp f fd) (B:QJ mg) (G:Qv mg) (T:QQ K mg) (hN:jq K mg "is_name" ZA ["thing"] fN fdN) (hP:jq K mg "is_tuple_of_names" Xe ["thing"] fP fdP):qm P w K mg base qO 3 f fd ["thing"] Ge:=by
 have GN:qm P w K mg base qO 1 fN fdN ["thing"] uz:=Wm hN.fn B T
 have GP:qm P w K mg base qO 2 fP fdP ["thing"] NM:=Kf hP.fn B G T hN
 refine F.okJ uO (λvs H Q E h=>?_) (λcdv A outer s H vs Q E hr h=>?_)
 . obtain⟨p,x,r,rfl,_⟩:=h
   rfl
 . obtain⟨p,x,r,rfl,hp,hx,hn,hz,hl,q⟩:=h
   refine⟨_,qe (qM (QO (j9 (jd (qA ji (by rfl) T.isi boot_isinstance (qb (jv 0) (qb (Qn (v:=.ty "tuple") (by rfl) G.tup boot_tuple rfl) qf)))))
       (Qh (qu Vb (qA qP (by rfl) B.len boot_len (qb (jv 0) qf)) qi (qy _)))).pt qY qz)
     (qg (qv (JU (qJ hN GN (hr.mono (by decide)) (by rfl) (qb (qZ jn (jv 0) qi (λ_ _=>rfl)) qf)) (Z9 (qJ hP GP hr (by rfl) (qb (qZ jn (jv 0) qi (λ_ _=>rfl)) qf)))))),?_⟩
   refine⟨_,rfl,_,_,_,_,rfl,rfl,.tup hp,T.ktt,_,rfl,jf ⟨_,rfl,p,_,rfl,.inr (.of hp),rfl,_,rfl,jf ?_⟩⟩
   refine⟨_,rfl,p,_,0,_,rfl,rfl,.of hp,rfl,r.1,rfl,hn,λH1 s1=>⟨_,rfl,jP ?_⟩⟩
   exact⟨_,rfl,p,_,1,_,rfl,rfl,.of (s1 _ _ hp),rfl,x,r.2,rfl,s1 _ _ hx,hz,hl,λH2 s2=>q H2 (s1.trans s2)⟩
end
end Rh
set_option Elab.async false
set_option linter.all false
set_option maxRecDepth 100000
set_option maxHeartbeats 4000000
namespace Rh
open PySem L2 PyProof.Rows
section
variable {P:Program} {w:World} {K:PySem.W.Frag} {mg:Str->Option Value} {base:Heap}
abbrev Md:List Str:=["rows","number","row"]
theorem VS:qr Md ["rows"] (qj U6):=⟨rfl,rfl,rfl,by decide+kernel,rfl,by decide+kernel,by decide+kernel⟩
theorem Km {f fN fP fR:Addr} {fd fdN fdP fdR:FuncData} (F:jM K "need_form" "need_form" U6 f fd) (B:QJ mg) (G:Qv mg) (T:QQ K mg) (hN:jq K mg "is_name" ZA ["thing"] fN fdN) (hP:jq K mg "is_tuple_of_names" Xe ["thing"] fP fdP)
   (hR:jq K mg "is_row" Yp ["thing"] fR fdR):qm P w K mg base qO 4 f fd ["rows"] ZZ:=by
 have GR:qm P w K mg base qO 3 fR fdR ["thing"] Ge:=xH hR.fn B G T hN hP
 obtain⟨tm,hmp⟩:=T.mp
 refine F.okJ VS (λvs H Q E h=>?_) (λcdv A outer s H vs Q E hr h=>?_)
 . obtain⟨l,ps,rs,rfl,_⟩:=h
   rfl
 . obtain⟨l,ps,rs,rfl,g,q⟩:=h
   refine⟨_,qe (qM (QO (j9 (jd (qA ji (by rfl) T.isi boot_isinstance (qb (jv 0) (qb (Qn (v:=.ty "list") (by rfl) G.lst boot_list rfl) qf)))))
       (Qh (qu Qe (qA qP (by rfl) B.len boot_len (qb (jv 0) qf)) qi (qy _)))).pt qY qz)
     (qe (qM (qu zo (qA qP (by rfl) B.len boot_len (qb (jv 0) qf)) (QD (v:=.int 14) (by rfl) hmp ⟨_,rfl⟩) (qy _)) qY qz)
     (qg (jc PassesOwn.never rfl (vt (by rfl) T.enu (qb (jv 0) qf)) (YI rfl (jT (qt (i:=1) VS.nd rfl (Or.inl rfl)) (jT (qt (i:=2) VS.nd rfl (Or.inl rfl)) ZL)))
       (qg (qM (j9 (jd (qJ hR GR hr (by rfl) (qb (jv 2) qf)))) qY qz))))),?_⟩
   have lp:(ps.map V.ref).length=rs.length:=by rw[List.length_map,g.rows.1]
   refine⟨_,rfl,_,_,_,_,rfl,rfl,.lst g.at_,T.kll,_,rfl,jf ⟨_,rfl,l,_,rfl,.inl (.of g.at_),rfl,_,rfl,?_⟩⟩
   have e0:decide (V.int (((ps.map V.ref).length:Nat):Int)=V.int 0)=false:=decide_eq_false (by
     intro z
     have:=V.int.inj z
     have:=g.pos
     omega)
   rw[e0]
   refine jf ⟨_,rfl,l,_,rfl,.inl (.of g.at_),_,_,rfl,rfl,_,rfl,?_⟩
   have e1:decide ((14:Int) < (((ps.map V.ref).length:Nat):Int))=false:=decide_eq_false (by
     have:=g.le
     omega)
   refine k6 (λz=>absurd z (by rw[e1];decide)) (λ_=>?_)
   refine⟨_,rfl,l,rfl,⟨_,.of g.at_⟩,?_⟩
   refine Vt (K:=K) (a:=l) (xs:=ps.map V.ref) (λi σ' H'=>∃v1 v2,σ'=[some (.ref l),v1,v2]/\Same H H') ⟨none,none,rfl,Same.refl H⟩ (λi σ' H' _ ⟨_,_,_,s⟩=>.of (s _ _ g.at_)) ?_ ?_
   . rintro i x σ' H' p hx hp ⟨v1,v2,rfl,s1⟩
     have g1:=g.mono (s1.trans (qk (o:=.tup [.int (i:Nat),x]) hp))
     obtain⟨p',q',r,rfl,_,hr',a,b⟩:=g1.rows.item hx
     refine⟨p,_,rfl,.of qd,rfl,_,_,rfl,_,_,rfl,rfl,_,rfl,p',q',r,rfl,a,b,g.good.nm r hr',g.good.names r hr',Nat.le_trans (g.good.len r hr') (by decide),λH2 s2=>⟨_,rfl,jf ⟨_,_,rfl,?_⟩⟩⟩
     exact(s1.trans (qk hp)).trans s2
   . rintro σ' H' ⟨v1,v2,rfl,s1⟩
     exact q H' s1
abbrev qah:List Str:=["order","ahead","name"]
theorem yX:qr qah ["order"] (qj uT):=⟨rfl,rfl,rfl,by decide+kernel,rfl,by decide+kernel,by decide+kernel⟩
theorem QG {zs:List Str} (hn:zs.Nodup) {i:Nat} {z:Str} (e:zs[i]?=some z):¬(Sum.inr z:qE)∈(zs.take i).map Sum.inr:=λh=>by
 obtain⟨y,hy,ey⟩:=List.mem_map.mp h
 have ey':y=z:=Sum.inr.inj ey
 subst ey'
 obtain⟨j,hj⟩:=List.getElem?_of_mem hy
 have hj1:=(List.getElem?_eq_some_iff.mp hj).1
 rw[List.length_take]at hj1
 have hji:j < i:=by omega
 rw[List.getElem?_take_of_lt hji]at hj
 have h1:=(List.getElem?_eq_some_iff.mp hj)
 have h2:=(List.getElem?_eq_some_iff.mp e)
 exact absurd (h1.2.trans h2.2.symm) (List.pairwise_iff_getElem.mp hn j i h1.1 h2.1 hji)
theorem Wh {kvs:List (qE×V)} {k:qE} (v:V) (h:ja kvs k=none):(jA kvs k v).map (·.1)=kvs.map (·.1)++[k]:=by
 rw[Je v h,List.map_append]
 rfl
theorem Ry {f:Addr} {fd:FuncData} (F:jM K "need_own_names" "need_own_names" uT f fd):qm P w K mg base qO 1 f fd ["order"] Gf:=by
 refine F.okJ yX (λvs H Q E h=>?_) (λcdv A outer s H vs Q E hr h=>?_)
 . obtain⟨l,zs,rfl,_⟩:=h
   rfl
 . obtain⟨l,zs,rfl,hl,hn,hz,q⟩:=h
   have hu:=jV hr
   refine⟨_,qe (qw (i:=1) yX.nd rfl (Or.inl rfl) jU)
     (qg (jc PassesOwn.never rfl (qH (jv 0)) (qt (i:=2) yX.nd rfl (Or.inl rfl))
       (qe (qM (Qa (JV hu (jv 2) (jv 1))) qY qz) (qg (je hu (jv 1) (jv 2) jG rfl))))),?_⟩
   intro D hD
   refine⟨_,rfl,l,rfl,⟨_,.of (ql hl hD)⟩,?_⟩
   refine jm (K:=K) (a:=l) (xs:=zs.map V.str) (λi σ' H'=>∃v kvs,σ'=[some (.ref l),some (.ref D),v]/\Same H H'/\H' D=some (.dK kvs)/\kvs.map (·.1)=(zs.take i).map Sum.inr) ⟨none,[],rfl,qk hD,qd,rfl⟩ (λi σ' H' _ ⟨_,_,_,s,_⟩=>.of (s _ _ hl)) ?_ ?_
   . rintro i x σ' H' hx ⟨v,kvs,rfl,s1,hD1,ek⟩
     rw[List.getElem?_map]at hx
     cases e:zs[i]? with
     | none=>rw[e]at hx;cases hx
     | some z=>
       rw[e]at hx
       obtain rfl:=(Option.some.inj hx).symm
       have hi:=(List.getElem?_eq_some_iff.mp e).1
       have ez:ja kvs (Sum.inr z:qE)=none:=Q8 (by rw[ek];exact QG hn e)
       have gz:jW H' D (.str z) none:=by
         have:=jW.k (k:=(Sum.inr z:qE)) hD1
         rw[ez]at this
         exact this
       have lk:kvs.length < sizeLine:=by
         have:=congrArg List.length ek
         rw[List.length_map,List.length_map,List.length_take]at this
         exact qp (by omega)
       refine⟨_,rfl,_,rfl,D,none,rfl,gz,_,rfl,jf ?_⟩
       refine⟨_,rfl,_,rfl,D,_,rfl,QR.k (k:=(Sum.inr z:qE)) hD1 lk,_,_,rfl,Same.upd s1 hD,qd,?_⟩
       rw[Wh _ ez,ek,List.take_add_one,e,List.map_append]
       rfl
   . rintro σ' H' ⟨v,kvs,rfl,s1,_⟩
     exact q H' s1
abbrev Me:List Str:=["ends","order","ahead","name"]
theorem VT:qr Me ["ends","order"] (qj U7):=⟨rfl,rfl,rfl,by decide+kernel,rfl,by decide+kernel,by decide+kernel⟩
theorem Kn {f:Addr} {fd:FuncData} (F:jM K "need_ends" "need_ends" U7 f fd):qm P w K mg base qO 1 f fd ["ends","order"] yP:=by
 refine F.okJ VT (λvs H Q E h=>?_) (λcdv A outer s H vs Q E hr h=>?_)
 . obtain⟨x,l,es,zs,rfl,_⟩:=h
   rfl
 . obtain⟨x,l,es,zs,rfl,hx,hl,hn,hin,hz,q⟩:=h
   have hu:=jV hr
   refine⟨_,qe (qw (i:=2) VT.nd rfl (Or.inl rfl) jU)
     (qg (jc PassesOwn.never rfl (Z8 (jv 0)) (qt (i:=3) VT.nd rfl (Or.inl rfl))
       (qe (qM (qu QB (jv 3) (jv 1) (by with_unfolding_all rfl)) qY qz)
       (qe (qM (Qa (JV hu (jv 3) (jv 2))) qY qz) (qg (je hu (jv 2) (jv 3) jG rfl)))))),?_⟩
   intro D hD
   refine⟨_,rfl,x,rfl,⟨_,.of (ql hx hD)⟩,?_⟩
   refine vB (K:=K) (a:=x) (xs:=es.map V.str) (λi σ' H'=>∃v kvs,σ'=[some (.ref x),some (.ref l),some (.ref D),v]/\Same H H'/\H' D=some (.dK kvs)/\kvs.map (·.1)=(es.take i).map Sum.inr) ⟨none,[],rfl,qk hD,qd,rfl⟩ (λi σ' H' _ ⟨_,_,_,s,_⟩=>.of (s _ _ hx)) ?_ ?_
   . rintro i y σ' H' hy ⟨v,kvs,rfl,s1,hD1,ek⟩
     rw[List.getElem?_map]at hy
     cases e:es[i]? with
     | none=>rw[e]at hy;cases hy
     | some z=>
       rw[e]at hy
       obtain rfl:=(Option.some.inj hy).symm
       have hi:=(List.getElem?_eq_some_iff.mp e).1
       have ez:ja kvs (Sum.inr z:qE)=none:=Q8 (by rw[ek];exact QG hn e)
       have gz:jW H' D (.str z) none:=by
         have:=jW.k (k:=(Sum.inr z:qE)) hD1
         rw[ez]at this
         exact this
       have lk:kvs.length < sizeLine:=by
         have:=congrArg List.length ek
         rw[List.length_map,List.length_map,List.length_take]at this
         exact qp (by omega)
       refine⟨_,rfl,_,rfl,l,_,rfl,.inl (.of (s1 _ _ hl)),rfl,zc zs,_,rfl,?_⟩
       rw[Ww (hin z (List.mem_of_getElem? e))]
       refine jf ⟨_,rfl,_,rfl,D,none,rfl,gz,_,rfl,jf ?_⟩
       refine⟨_,rfl,_,rfl,D,_,rfl,QR.k (k:=(Sum.inr z:qE)) hD1 lk,_,_,rfl,Same.upd s1 hD,qd,?_⟩
       rw[Wh _ ez,ek,List.take_add_one,e,List.map_append]
       rfl
   . rintro σ' H' ⟨v,kvs,rfl,s1,_⟩
     exact q H' s1
abbrev qal:List Str:=["rows","many"]
theorem Gi:qr qal ["rows"] (qj uW):=⟨rfl,rfl,rfl,by decide+kernel,rfl,by decide+kernel,by decide+kernel⟩
theorem RB {f:Addr} {fd:FuncData} (F:jM K "need_few_roads" "need_few_roads" uW f fd) (B:QJ mg) (T:QQ K mg):qm P w K mg base qO 1 f fd ["rows"] ZZ:=by
 obtain⟨tm,hmr⟩:=T.mr
 refine F.okJ Gi (λvs H Q E h=>?_) (λcdv A outer s H vs Q E hr h=>?_)
 . obtain⟨l,ps,rs,rfl,_⟩:=h
   rfl
 . obtain⟨l,ps,rs,rfl,g,q⟩:=h
   refine⟨_,qe (qw (i:=1) Gi.nd rfl (Or.inl rfl) (qA (ze rfl) (by rfl) T.sum boot_sum (qb (j3 (N':=["row"]) (ix:=[none]) (te:=MT (λxs H Q=>∃p ys,xs=[.ref p]/\(SqL K H p ys\/SqT K H p ys)/\Q (.int ys.length) H) (jI (zH (W8 K) (qU 0) (tC (.int 1))) Zd)) rfl ⟨rfl,rfl,rfl,rfl,rfl⟩ (qH (jv 0)) (λC s2 H2 fp pins=>
       ⟨qt (i:=0) (RD _) rfl (Or.inl rfl),jO,qA qP (by rfl) B.len boot_len (qb (qZ jn (jv 0) qi (λ_ _=>rfl)) qf)⟩)) qf)))
     (qg (qM (qu zo (jv 1) (QD (v:=.int 40) (by rfl) hmr ⟨_,rfl⟩) (qy _)) qY qz)),?_⟩
   refine⟨_,rfl,l,rfl,⟨_,.of g.at_⟩,λD hD=>?_⟩
   refine jL (K:=K) (a:=l) (xs:=ps.map V.ref) (λi σ' H'=>∃v,σ'=[v]/\H'=upd H D (.lst (((rs.take i).map λr=>r.2.length).map λn=>V.int ((n:Nat):Int)))) ⟨none,rfl,rfl⟩ (λi σ' H' _ ⟨_,_,e⟩=>e▸.of (ql g.at_ hD)) ?_ ?_
   . rintro i x σ' H' hx ⟨v,rfl,rfl⟩
     obtain⟨p',q',r,rfl,er,hr',a,b⟩:=g.rows.item hx
     have hi:=(List.getElem?_eq_some_iff.mp er).1
     refine⟨_,rfl,p',_,1,_,rfl,rfl,.of (ql a hD),rfl,q',_,rfl,.inr (.of (ql b hD)),_,qd,?_,_,rfl,?_⟩
     . rw[List.length_map,List.length_map,List.length_take]
       have:=g.le
       exact qp (by omega)
     . rw[jr,List.take_add_one,er,List.map_append,List.map_append,List.length_map]
       rfl
   . rintro σ' H' ⟨v,rfl,rfl⟩
     have e:rs.take (ps.map V.ref).length=rs:=List.take_of_length_le (by rw[List.length_map,g.rows.1];exact Nat.le_refl _)
     rw[e]
     refine⟨D,_,rfl,.of qd,Nat.lt_of_le_of_lt g.good.few (by decide),?_⟩
     refine⟨_,rfl,_,_,rfl,rfl,_,rfl,?_⟩
     have:=g.good.few
     refine k6 (λz=>absurd (of_decide_eq_true z) ?_) (λ_=>q _ (qk hD))
     show ¬(40:Int) < _
     omega
abbrev Ma:List Str:=["rows","order","row"]
theorem VR:qr Ma ["rows"] (qj W2):=⟨rfl,rfl,rfl,by decide+kernel,rfl,by decide+kernel,by decide+kernel⟩
structure K4 (K:PySem.W.Frag) (mg:Str->Option Value):Prop where
 nm:∃f fd,jq K mg "is_name" ZA ["thing"] f fd
 tn:∃f fd,jq K mg "is_tuple_of_names" Xe ["thing"] f fd
 rw:∃f fd,jq K mg "is_row" Yp ["thing"] f fd
 fo:∃f fd,jq K mg "need_form" U6 ["rows"] f fd
 ow:∃f fd,jq K mg "need_own_names" uT ["order"] f fd
 en:∃f fd,jq K mg "need_ends" U7 ["ends","order"] f fd
 fw:∃f fd,jq K mg "need_few_roads" uW ["rows"] f fd
theorem Kj {f:Addr} {fd:FuncData} (F:jM K "need_rows" "need_rows" W2 f fd) (B:QJ mg) (G:Qv mg) (T:QQ K mg) (N:K4 K mg):qm P w K mg base qO 5 f fd ["rows"] ZZ:=by
 obtain⟨fN,fdN,hN⟩:=N.nm
 obtain⟨fP,fdP,hP⟩:=N.tn
 obtain⟨fR,fdR,hR⟩:=N.rw
 obtain⟨fF,fdF,hF⟩:=N.fo
 obtain⟨fO,fdO,hO⟩:=N.ow
 obtain⟨fE,fdE,hE⟩:=N.en
 obtain⟨fW,fdW,hW⟩:=N.fw
 have GF:qm P w K mg base qO 4 fF fdF ["rows"] ZZ:=Km hF.fn B G T hN hP hR
 have GO:qm P w K mg base qO 1 fO fdO ["order"] Gf:=Ry hO.fn
 have GE:qm P w K mg base qO 1 fE fdE ["ends","order"] yP:=Kn hE.fn
 have GW:qm P w K mg base qO 1 fW fdW ["rows"] ZZ:=RB hW.fn B T
 refine F.okJ VR (λvs H Q E h=>?_) (λcdv A outer s H vs Q E hr h=>?_)
 . obtain⟨l,ps,rs,rfl,_⟩:=h
   rfl
 . obtain⟨l,ps,rs,rfl,g,q⟩:=h
   refine⟨_,qe (jz (qJ hF GF hr (by rfl) (qb (jv 0) qf)))
     (qe (Qr (i:=1) (N':=["row"]) (ix:=[none]) (te:=zH (W8 K) (qU 0) (tC (.int 0))) VR.nd rfl (Or.inl rfl) rfl ⟨rfl,rfl,rfl,rfl,rfl⟩ (qH (jv 0)) (λC s2 H2 fp pins=>
       ⟨qt (i:=0) (RD _) rfl (Or.inl rfl),jO,qZ jn (jv 0) qi (λ_ _=>rfl)⟩))
     (qe (jz (qJ hO GO (hr.mono (by decide)) (by rfl) (qb (jv 1) qf)))
     (qe (jc PassesOwn.never rfl (qH (jv 0)) (qt (i:=2) VR.nd rfl (Or.inl rfl))
       (qg (jz (qJ hE GE (hr.mono (by decide)) (by rfl) (qb (qZ jn (jv 2) qi (λ_ _=>rfl)) (qb (jv 1) qf))))))
     (qg (jz (qJ hW GW (hr.mono (by decide)) (by rfl) (qb (jv 0) qf))))))),?_⟩
   refine⟨_,rfl,l,ps,rs,rfl,g,λH1 s1=>?_⟩
   have g1:=g.mono s1
   refine⟨_,rfl,l,rfl,⟨_,.of g1.at_⟩,λD hD=>?_⟩
   refine jL (K:=K) (a:=l) (xs:=ps.map V.ref) (λi σ' H'=>∃v,σ'=[v]/\H'=upd H1 D (.lst (((rs.take i).map (·.1)).map V.str))) ⟨none,rfl,rfl⟩ (λi σ' H' _ ⟨_,_,e⟩=>e▸.of (ql g1.at_ hD)) ?_ ?_
   . rintro i x σ' H' hx ⟨v,rfl,rfl⟩
     obtain⟨p',q',r,rfl,er,hr',a,b⟩:=g1.rows.item hx
     have hi:=(List.getElem?_eq_some_iff.mp er).1
     refine⟨_,rfl,p',_,0,_,rfl,rfl,.of (ql a hD),rfl,_,qd,?_,_,rfl,?_⟩
     . rw[List.length_map,List.length_map,List.length_take]
       have:=g.le
       exact qp (by omega)
     . rw[jr,List.take_add_one,er,List.map_append,List.map_append]
       rfl
   . rintro σ' H' ⟨v,rfl,rfl⟩
     have e:rs.take (ps.map V.ref).length=rs:=List.take_of_length_le (by rw[List.length_map,g.rows.1];exact Nat.le_refl _)
     rw[e]
     refine⟨_,rfl,D,rs.map (·.1),rfl,qd,g.good.nd,by rw[List.length_map];have:=g.le;omega,λH2 s2=>?_⟩
     have sD:Same H1 H2:=(qk hD).trans s2
     have hD2:H2 D=some (.lst ((rs.map (·.1)).map V.str)):=s2 _ _ qd
     have g2:=g1.mono sD
     refine⟨_,rfl,l,rfl,⟨_,.of g2.at_⟩,?_⟩
     refine jm (K:=K) (a:=l) (xs:=ps.map V.ref) (λi σ' H'=>∃v,σ'=[some (.ref l),some (.ref D),v]/\Same H2 H') ⟨none,rfl,Same.refl H2⟩ (λi σ' H' _ ⟨_,_,s⟩=>.of (s _ _ g2.at_)) ?_ ?_
     . rintro i x σ' H' hx ⟨v,rfl,s3⟩
       obtain⟨p',q',r,rfl,er,hr',a,b⟩:=(g2.mono s3).rows.item hx
       refine⟨_,rfl,p',_,1,_,rfl,rfl,.of a,rfl,_,rfl,q',D,r.2,rs.map (·.1),rfl,b,s3 _ _ hD2,g.good.rd r hr',g.good.to r hr',Nat.le_trans (g.good.len r hr') (by decide),λH4 s4=>⟨_,rfl,s3.trans s4⟩⟩
     . rintro σ' H' ⟨v,rfl,s3⟩
       exact⟨_,rfl,l,ps,rs,rfl,g2.mono s3,λH4 s4=>q H4 (((s1.trans sD).trans s3).trans s4)⟩
end
end Rh
set_option Elab.async false
set_option linter.all false
set_option maxRecDepth 100000
set_option maxHeartbeats 4000000
namespace Rh
open PySem L2 PyProof.Rows
abbrev VW:Stmt:=jH (top 28) 0
abbrev ZC:Stmt:=jH (top 28) 1
abbrev Yr:Stmt:=jH (top 28) 2
def Jd (rs:List (Str×List Str)) (r:Str×List Str):List Str:=(rs.map (·.1)).filter λz=>ZM (.str z) (r.2.map V.str)
def jQ (CG:Addr) (H:Hp) (a:Addr) (rs:List (Str×List Str)):Prop:=∃(dx lo rd:Addr) (kvs:List (qE×V)),H a=some (.ins CG dx [("order",.ref lo),("roads",.ref rd)])/\H lo=some (.lst ((rs.map (·.1)).map V.str))/\H rd=some (.dK kvs)/\
 ∀r∈rs,∃q,ja kvs (Sum.inr r.1)=some (.ref q)/\H q=some (.lst ((Jd rs r).map V.str))
theorem jQ.mono {CG:Addr} {H H':Hp} {a:Addr} {rs:List (Str×List Str)} (h:jQ CG H a rs) (s:Same H H'):jQ CG H' a rs:=by
 obtain⟨dx,lo,rd,kvs,h1,h2,h3,h4⟩:=h
 exact⟨dx,lo,rd,kvs,s _ _ h1,s _ _ h2,s _ _ h3,λr hr=>let ⟨q,a,b⟩:=h4 r hr;⟨q,a,s _ _ b⟩⟩
theorem Qw.fr {H H':Hp} {l x C dx:Addr} {fs:List (Str×V)} {ps:List Addr} {rs:List (Str×List Str)} (h:Qw H l ps rs) (hx:H x=some (.ins C dx fs)) (s:Fr H x H'):Qw H' l ps rs:=by
 refine⟨s _ _ h.at_ (λe=>?_),⟨h.rows.1,λi p r e1 e2=>?_⟩,h.good,h.pos,h.le⟩
 . have:=h.at_
   rw[e,hx]at this
   cases this
 . obtain⟨q,a,b⟩:=h.rows.2 i p r e1 e2
   exact⟨q,s _ _ a (λe=>by rw[e,hx]at a;cases a),s _ _ b (λe=>by rw[e,hx]at b;cases b)⟩
structure MB (K:PySem.W.Frag) (mg:Str->Option Value) (CG f:Addr) (fd:FuncData):Prop where
 cl:z7 K CG
 mkr:Mk K CG f
 ns:mg "Ground"=some (.ref CG)
 no:jF K CG "order"
 nr:jF K CG "roads"
 fn:jM K "__init__" "Ground.__init__" VW f fd
 bi:jx K fd ["self","rows"] []
theorem nor:¬(Str.ofString "order")=Str.ofString "roads":=by decide+kernel
theorem qad (v:V):Jl (Str.ofString "order") v []=[(Str.ofString "order",v)]:=rfl
theorem qac (v u:V):Jl (Str.ofString "roads") u [(Str.ofString "order",v)]=[(Str.ofString "order",v),(Str.ofString "roads",u)]:=by
 unfold Jl
 rw[if_neg nor]
 rfl
theorem lkO (v u:V):([(Str.ofString "order",v),(Str.ofString "roads",u)]:List (Str×V)).lookup (Str.ofString "order")=some v:=by simp [List.lookup]
theorem lkR (v u:V):([(Str.ofString "order",v),(Str.ofString "roads",u)]:List (Str×V)).lookup (Str.ofString "roads")=some u:=by
 have e:((Str.ofString "roads")==(Str.ofString "order"))=false:=by decide+kernel
 simp [List.lookup,e]
def XY (CG:Addr):Sp:=λvs H Q _=>∃(x dx l:Addr) (ps:List Addr) (rs:List (Str×List Str)),vs=[.ref x,.ref l]/\Qw H l ps rs/\H x=some (.ins CG dx [])/\∀H',jQ CG H' x rs->Fr H x H'->Q .non H'
def QK (CG:Addr):Sp:=λvs H Q _=>∃(a:Addr) (rs:List (Str×List Str)),vs=[.ref a]/\jQ CG H a rs/\∀l,H l=none->Q (.ref l) (upd H l (.lst ((rs.map (·.1)).map V.str)))
def XZ (CG:Addr):Sp:=λvs H Q _=>∃(a:Addr) (rs:List (Str×List Str)) (r:Str×List Str),vs=[.ref a,.str r.1]/\jQ CG H a rs/\r∈rs/\jo r.1=true/\∀H1 l,Same H H1->H1 l=none->Q (.ref l) (upd H1 l (.lst ((Jd rs r).map V.str)))
section
variable {P:Program} {w:World} {K:PySem.W.Frag} {mg:Str->Option Value} {base:Heap}
abbrev nGI:List Str:=["self","rows","row"]
theorem NT:qr nGI ["self","rows"] (qj VW):=⟨rfl,rfl,rfl,by decide+kernel,rfl,by decide+kernel,by decide+kernel⟩
theorem xJ {f fW CG:Addr} {fd fdW:FuncData} (C:MB K mg CG f fd) (B:QJ mg) (G:Qv mg) (T:QQ K mg) (N:K4 K mg) (hW:jq K mg "need_rows" W2 ["rows"] fW fdW):qm P w K mg base qO 6 f fd ["self","rows"] (XY CG):=by
 have GW:qm P w K mg base qO 5 fW fdW ["rows"] ZZ:=Kj hW.fn B G T N
 refine C.fn.okJ NT (λvs H Q E h=>?_) (λcdv A outer s H vs Q E hr h=>?_)
 . obtain⟨x,dx,l,ps,rs,rfl,_⟩:=h
   rfl
 . obtain⟨x,dx,l,ps,rs,rfl,g,hx,q⟩:=h
   have hu:=jV hr
   refine⟨_,qe (jz (qJ hW GW hr (by rfl) (qb (jv 1) qf)))
     (qe (Wu (jv 0) (j3 (N':=["row"]) (ix:=[none]) (te:=zH (W8 K) (qU 0) (tC (.int 0))) rfl ⟨rfl,rfl,rfl,rfl,rfl⟩ (qH (jv 1)) (λC s2 H2 fp pins=>
       ⟨qt (i:=0) (RD _) rfl (Or.inl rfl),jO,qZ jn (jv 0) qi (λ_ _=>rfl)⟩)) rfl)
     (qe (Wu (jv 0) jU rfl)
     (qg (jc PassesOwn.never rfl (qH (jv 1)) (qt (i:=2) NT.nd rfl (Or.inr rfl))
       (qg (je hu (Qj (jv 0) rfl) (qZ jn (jv 2) qi (λ_ _=>rfl))
         (j3 (N':=["name","row"]) (ix:=[none,some 2]) (tt:=Y8 (zH (Nw K false) (qU 0) (zH (W8 K) (qU 1) (tC (.int 1))))) rfl ⟨rfl,rfl,rfl,rfl,rfl⟩ (qH (Qj (jv 0) rfl)) (λC s2 H2 fp pins=>
           ⟨qt (i:=0) (show (["name","row"]:List Str).Nodup by decide+kernel) rfl (Or.inl rfl),jy (qu Jf (jv 0) (qZ jn (jv 1) qi (λ_ _=>rfl)) (by with_unfolding_all rfl)),jv 0⟩)) rfl)))))),?_⟩
   refine⟨_,rfl,l,ps,rs,rfl,g,λH1 s1=>?_⟩
   have g1:=g.mono s1
   have fr1:Fr H x H1:=λb u h _=>s1 _ _ h
   have hx1:=s1 _ _ hx
   refine⟨_,rfl,l,rfl,⟨_,.of g1.at_⟩,λlo hlo=>?_⟩
   have nlx:lo≠x:=λe=>by rw[e,hx1]at hlo;cases hlo
   refine jL (K:=K) (a:=l) (xs:=ps.map V.ref) (λi σ' H'=>∃v,σ'=[v]/\H'=upd H1 lo (.lst (((rs.take i).map (·.1)).map V.str))) ⟨none,rfl,rfl⟩ (λi σ' H' _ ⟨_,_,e⟩=>e▸.of (ql g1.at_ hlo)) ?_ ?_
   . rintro i y σ' H' hy ⟨v,rfl,rfl⟩
     obtain⟨p',q',r,rfl,er,hr',a,b⟩:=g1.rows.item hy
     have hi:=(List.getElem?_eq_some_iff.mp er).1
     refine⟨_,rfl,p',_,0,_,rfl,rfl,.of (ql a hlo),rfl,_,qd,?_,_,rfl,?_⟩
     . rw[List.length_map,List.length_map,List.length_take]
       have:=g.le
       exact qp (by omega)
     . rw[jr,List.take_add_one,er,List.map_append,List.map_append]
       rfl
   rintro σ' H' ⟨v,rfl,rfl⟩
   have e:rs.take (ps.map V.ref).length=rs:=List.take_of_length_le (by rw[List.length_map,g.rows.1];exact Nat.le_refl _)
   rw[e]
   have fr2:Fr H x (upd H1 lo (.lst ((rs.map (·.1)).map V.str))):=fr1.new hlo
   have hlo2:upd H1 lo (.lst ((rs.map (·.1)).map V.str)) lo=some (.lst ((rs.map (·.1)).map V.str)):=qd
   have hx2:upd H1 lo (.lst ((rs.map (·.1)).map V.str)) x=some (.ins CG dx []):=ql hx1 hlo
   generalize upd H1 lo (.lst ((rs.map (·.1)).map V.str))=H2 at fr2 hlo2 hx2
   refine⟨_,rfl,x,CG,dx,[],rfl,hx2,C.cl,C.no,by decide,?_⟩
   rw[qad]
   intro rd hrd
   have nrx:rd≠x:=λe=>by rw[e,qd]at hrd;cases hrd
   have hrd2:H2 rd=none:=by rw[qh nrx]at hrd;exact hrd
   have nrl:rd≠lo:=λe=>by rw[e,hlo2]at hrd2;cases hrd2
   have hHr:H rd=none:=fr2.fresh hx2 hrd2
   refine⟨_,rfl,x,CG,dx,_,rfl,ql qd hrd,C.cl,C.nr,by show 1 < 1000;decide,?_⟩
   rw[qac]
   have fr5:Fr H x (upd (upd (upd H2 x (.ins CG dx [("order",.ref lo)])) rd (.dK [])) x (.ins CG dx [("order",.ref lo),("roads",.ref rd)])):=((fr2.at_d).own hHr).at_d
   have g5:=g.fr hx fr5
   refine⟨_,rfl,l,rfl,⟨_,.of g5.at_⟩,?_⟩
   refine jm (K:=K) (a:=l) (xs:=ps.map V.ref) (λi σ' H'=>∃v kvs,σ'=[some (.ref x),some (.ref l),v]/\H' x=some (.ins CG dx [("order",.ref lo),("roads",.ref rd)])/\H' lo=some (.lst ((rs.map (·.1)).map V.str))/\H' rd=some (.dK kvs)/\
     kvs.map (·.1)=((rs.map (·.1)).take i).map Sum.inr/\(∀r∈rs.take i,∃q,ja kvs (Sum.inr r.1)=some (.ref q)/\H' q=some (.lst ((Jd rs r).map V.str)))/\Fr H x H')
     ⟨none,[],rfl,qd,?_,?_,rfl,λr h=>(nomatch h),fr5⟩ (λi σ' H' _ ⟨_,_,_,_,_,_,_,_,fr⟩=>.of (g.fr hx fr).at_) ?_ ?_
   . rw[qh nlx,qh (Ne.symm nrl),qh nlx]
     exact hlo2
   . rw[qh nrx]
     exact qd
   . rintro i y σ' H' hy ⟨v,kvs,rfl,hx',hlo',hrd',ek,hv,fr⟩
     have g':=g.fr hx fr
     obtain⟨p,qq,r,rfl,er,hr',a,b⟩:=g'.rows.item hy
     have hi:=(List.getElem?_eq_some_iff.mp er).1
     have hle:=g.le
     refine⟨_,rfl,x,CG,dx,_,_,rfl,hx',C.cl,C.no,lkO _ _,lo,rfl,⟨_,.of hlo'⟩,λD hD=>?_⟩
     refine jL (K:=K) (a:=lo) (xs:=(rs.map (·.1)).map V.str) (λj σ'' H''=>∃v0,σ''=[v0,some (.ref p)]/\H''=upd H' D (.lst ((((rs.map (·.1)).take j).filter λz=>ZM (.str z) (r.2.map V.str)).map V.str))) ⟨none,rfl,rfl⟩
       (λj σ'' H'' _ ⟨_,_,e⟩=>e▸.of (ql hlo' hD)) ?_ ?_
     . rintro j y σ'' H'' hy ⟨v0,rfl,rfl⟩
       rw[List.getElem?_map]at hy
       cases e:(rs.map (·.1))[j]? with
       | none=>rw[e]at hy;cases hy
       | some z=>
         rw[e]at hy
         obtain rfl:=(Option.some.inj hy).symm
         refine⟨_,rfl,_,rfl,p,_,1,_,rfl,rfl,.of (ql a hD),rfl,qq,_,rfl,.inr (.of (ql b hD)),rfl,zc _,_,rfl,?_⟩
         have et:((rs.map (·.1)).take (j+1)).filter (λz=>ZM (.str z) (r.2.map V.str))=((rs.map (·.1)).take j).filter (λz=>ZM (.str z) (r.2.map V.str))++if ZM (.str z) (r.2.map V.str)=true then [z] else []:=by
           rw[List.take_add_one,e,List.filter_append]
           congr 1
           cases ei:ZM (.str z) (r.2.map V.str)
           . simp [ei]
           . simp [ei]
         rw[et]
         show if ZM (.str z) (r.2.map V.str)=true then _ else _
         cases ei:ZM (.str z) (r.2.map V.str) with
         | true=>
           refine jP ⟨_,rfl,_,qd,?_,_,rfl,?_⟩
           . rw[List.length_map]
             refine qp (Nat.le_trans (List.length_filter_le _ _) ?_)
             rw[List.length_take,List.length_map]
             omega
           . rw[jr,if_pos rfl,List.map_append]
             rfl
         | false=>
           refine jf ⟨_,rfl,?_⟩
           rw[if_neg Bool.false_ne_true,List.append_nil]
     . rintro σ'' H'' ⟨v0,rfl,rfl⟩
       have ed:((rs.map (·.1)).take ((rs.map (·.1)).map V.str).length).filter (λz=>ZM (.str z) (r.2.map V.str))=Jd rs r:=by
         rw[List.length_map,List.take_of_length_le (Nat.le_refl _)]
         rfl
       rw[ed]
       have nD:∀{c:Addr} {o:HO},H' c=some o->c≠D:=λh e=>by rw[e,hD]at h;cases h
       have en:(rs.map (·.1))[i]?=some r.1:=by rw[List.getElem?_map,er];rfl
       have ez:ja kvs (Sum.inr r.1:qE)=none:=Q8 (by rw[ek];exact QG g.good.nd en)
       have lk:kvs.length < sizeLine:=by
         have:=congrArg List.length ek
         rw[List.length_map,List.length_map,List.length_take,List.length_map]at this
         exact qp (by omega)
       refine⟨_,rfl,x,CG,dx,_,_,rfl,ql hx' hD,C.cl,C.nr,lkR _ _,_,rfl,p,_,0,_,rfl,rfl,.of (ql a hD),rfl,rd,_,rfl,QR.k (k:=(Sum.inr r.1:qE)) (ql hrd' hD) lk,?_⟩
       refine⟨_,jA kvs (Sum.inr r.1) (.ref D),rfl,?_,?_,qd,?_,λr' hr2=>?_,?_⟩
       . rw[qh (Ne.symm nrx)];exact ql hx' hD
       . rw[qh (Ne.symm nrl)];exact ql hlo' hD
       . rw[Wh _ ez,ek,List.take_add_one,en,List.map_append]
         rfl
       . rw[List.take_add_one,er]at hr2
         rcases List.mem_append.mp hr2 with h | h
         . obtain⟨q1,a1,b1⟩:=hv r' h
           refine⟨q1,?_,?_⟩
           . rw[jS,if_neg]
             . exact a1
             . intro z
               rw[z,ez]at a1
               cases a1
           . have n1:q1≠rd:=λe=>by rw[e,hrd']at b1;cases b1
             rw[qh n1]
             exact ql b1 hD
         . have er':r'=r:=by simpa using h
           subst er'
           refine⟨D,?_,?_⟩
           . rw[jS,if_pos rfl]
           . rw[qh (Ne.symm (nD hrd'))]
             exact qd
       . exact(fr.new hD).own hHr
   . rintro σ' H' ⟨v,kvs,rfl,hx',hlo',hrd',ek,hv,fr⟩
     have e:rs.take (ps.map V.ref).length=rs:=List.take_of_length_le (by rw[List.length_map,g.rows.1];exact Nat.le_refl _)
     rw[e]at hv
     exact q H' ⟨dx,lo,rd,kvs,hx',hlo',hrd',hv⟩ fr
theorem M3:qr ["self"] ["self"] (qj ZC):=⟨rfl,rfl,rfl,by decide+kernel,rfl,by decide+kernel,by decide+kernel⟩
theorem QF {f fI CG:Addr} {fd fdI:FuncData} (F:jM K "names" "Ground.names" ZC f fd) (C:MB K mg CG fI fdI) (G:Qv mg):qm P w K mg base qO 1 f fd ["self"] (QK CG):=by
 refine F.okJ M3 (λvs H Q E h=>?_) (λcdv A outer s H vs Q E hr h=>?_)
 . obtain⟨a,rs,rfl,_⟩:=h
   rfl
 . obtain⟨a,rs,rfl,⟨dx,lo,rd,kvs,h1,h2,h3,h4⟩,q⟩:=h
   refine⟨_,qg (qv (j4 Ju (by rfl) G.lst boot_list (qb (Qj (jv 0) rfl) qf))),?_⟩
   exact⟨_,rfl,a,CG,dx,_,_,rfl,h1,C.cl,C.no,lkO _ _,lo,_,rfl,.inl (.of h2),q⟩
abbrev nGF:List Str:=["self","name"]
theorem M4:qr nGF nGF (qj Yr):=⟨rfl,rfl,rfl,by decide+kernel,rfl,by decide+kernel,by decide+kernel⟩
theorem Vh {f fI fN CG:Addr} {fd fdI fdN:FuncData} (F:jM K "roads_from" "Ground.roads_from" Yr f fd) (C:MB K mg CG fI fdI) (B:QJ mg) (G:Qv mg) (T:QQ K mg) (hN:jq K mg "is_name" ZA ["thing"] fN fdN):qm P w K mg base qO 2 f fd nGF (XZ CG):=by
 have GN:qm P w K mg base qO 1 fN fdN ["thing"] uz:=Wm hN.fn B T
 refine F.okJ M4 (λvs H Q E h=>?_) (λcdv A outer s H vs Q E hr h=>?_)
 . obtain⟨a,rs,r,rfl,_⟩:=h
   rfl
 . obtain⟨a,rs,r,rfl,gr,hr',hn,q⟩:=h
   have hu:=jV hr
   refine⟨_,qe (qM (QO (j9 (jd (qJ hN GN hr (by rfl) (qb (jv 1) qf)))) (Qh (Qa (QH hu (jv 1) (Qj (jv 0) rfl))))).pt qY qz)
     (qg (qv (j4 Ju (by rfl) G.lst boot_list (qb (qL hu (Qj (jv 0) rfl) (jv 1) (λ_ _=>rfl)) qf)))),?_⟩
   refine⟨_,rfl,r.1,rfl,hn,λH1 s1=>⟨_,rfl,jf ?_⟩⟩
   obtain⟨dx,lo,rd,kvs,h1,h2,h3,h4⟩:=gr.mono s1
   obtain⟨qq,hv,hq⟩:=h4 r hr'
   have gz:jW H1 rd (.str r.1) (some (.ref qq)):=by
     have:=jW.k (k:=(Sum.inr r.1:qE)) h3
     rw[hv]at this
     exact this
   refine⟨_,rfl,_,rfl,a,CG,dx,_,_,rfl,h1,C.cl,C.nr,lkR _ _,rd,_,rfl,gz,_,rfl,jf ?_⟩
   exact⟨_,rfl,a,CG,dx,_,_,rfl,h1,C.cl,C.nr,lkR _ _,_,rfl,rd,_,rfl,gz,qq,_,rfl,.inl (.of hq),λl hl=>q H1 l s1 hl⟩
end
end Rh
set_option Elab.async false
set_option linter.all false
set_option maxRecDepth 100000
set_option maxHeartbeats 4000000
namespace Rh
open PySem L2 PyProof.Rows
abbrev Qp:Stmt:=top 2
abbrev Z0:Stmt:=top 3
abbrev jt:=List (Str×List Str)
def Js (rs:jt) (z:Str):List Str:=match rs.find? (λr=>decide (r.1=z)) with
 | some r=>Jd rs r
 | none=>[]
theorem YL:∀{rs:jt} {r:Str×List Str},(rs.map (·.1)).Nodup->r∈rs->rs.find? (λq=>decide (q.1=r.1))=some r
 | a::rs,r,hn,h=>by
   rw[List.map_cons,List.nodup_cons]at hn
   rcases List.mem_cons.mp h with rfl | h
   . simp [List.find?_cons]
   . have:¬a.1=r.1:=λe=>hn.1 (e▸List.mem_map.mpr ⟨r,h,rfl⟩)
     simp only[List.find?_cons,decide_eq_false this]
     exact YL hn.2 h
theorem zX {rs:jt} {r:Str×List Str} (hn:(rs.map (·.1)).Nodup) (h:r∈rs):Js rs r.1=Jd rs r:=by
 unfold Js
 rw[YL hn h]
theorem y4 {rs:jt} {r:Str×List Str} {y:Str} (h:y∈Jd rs r):∃r'∈rs,r'.1=y:=by
 obtain⟨r',h1,h2⟩:=List.mem_map.mp (List.mem_filter.mp h).1
 exact⟨r',h1,h2⟩
theorem KG {z:Str} {zs:List Str}:ZM (.str z) (zs.map V.str)=true↔z∈zs:=by
 refine⟨λh=>?_,Ww⟩
 unfold ZM at h
 obtain⟨y,hy,e⟩:=List.any_eq_true.mp h
 obtain⟨x,hx,rfl⟩:=List.mem_map.mp hy
 have e':(x==z)=true:=e
 rw[beq_iff_eq]at e'
 exact e'▸hx
theorem y6 {rs:jt} (g:qB rs) {r:Str×List Str} (h:r∈rs) {y:Str}:y∈Jd rs r↔y∈r.2:=by
 unfold Jd
 rw[List.mem_filter,KG]
 exact⟨λz=>z.2,λz=>⟨g.to r h y z,z⟩⟩
theorem JY {rs:jt} (hn:(rs.map (·.1)).Nodup):∀z∈rs.map (·.1),∀y∈Js rs z,y∈rs.map (·.1):=λz hz y hy=>by
 obtain⟨r,hr,rfl⟩:=List.mem_map.mp hz
 rw[zX hn hr]at hy
 obtain⟨r',h1,rfl⟩:=y4 hy
 exact List.mem_map.mpr ⟨r',h1,rfl⟩
theorem Jp {α:Type}:∀{l m:List α},l.Nodup->(∀z∈l,z∈m)->l.length<=m.length
 | [],m,_,_=>Nat.zero_le _
 | a::l,m,hn,h=>by
   classical
   rw[List.nodup_cons]at hn
   have ha:=h a List.mem_cons_self
   have:=Jp (m:=m.erase a) hn.2 λz hz=>(List.mem_erase_of_ne (λ(e:z=a)=>hn.1 (e▸hz))).mpr (h z (List.mem_cons_of_mem _ hz))
   rw[List.length_erase_of_mem ha]at this
   have:=List.length_pos_of_mem ha
   rw[List.length_cons]
   omega
theorem Xj:∀{more kvs:List (qE×V)},(more.map (·.1)).Nodup->(∀k∈more.map (·.1),¬k∈kvs.map (·.1))->Qu kvs more=kvs++more
 | [],kvs,_,_=>(List.append_nil _).symm
 | p::more,kvs,hn,h=>by
   rw[List.map_cons,List.nodup_cons]at hn
   have e:ja kvs p.1=none:=Q8 (h p.1 (by simp))
   show Qu (jA kvs p.1 p.2) more=_
   rw[Je p.2 e,Xj hn.2]
   . rw[List.append_assoc]
     rfl
   . intro k hk m
     rw[List.map_append]at m
     rcases List.mem_append.mp m with m | m
     . exact h k (by rw[List.map_cons];exact List.mem_cons_of_mem _ hk) m
     . have:k=p.1:=by simpa using m
       subst this
       exact hn.1 hk
structure YV (K:PySem.W.Frag) (C:Addr) (m qual:Str) (st:Stmt) (ps:List Str) (f:Addr) (fd:FuncData):Prop where
 fn:jM K m qual st f fd
 me:Y3 K C m f
 bi:jx K fd ps []
theorem Xm {X:Cx} {C f:Addr} {fd:FuncData} {m qual:Str} {st:Stmt} {ps:List Str} {k:Nat} {sp:Sp} {o:Expr} {ta:TE} {apos pos:Pos} {pl:Sem Bool} (h:YV X.K C m qual st ps f fd) (c:z7 X.K C) (G:qm X.prog X.w X.K X.mg X.base qO k f fd ps sp) (hr:qW k X.A) (he:JE X o ta)
   (ht:eval (.Call (.Attribute o m apos) [] [] pos) X.env=(do
     let ov <-eval o X.env
     standAt apos.atName
     let (f,first) <-holding [ov] (getMethod ov m pl)
     callWith pos f first (backTo pos (starEach [] X.env)) (backToKw pos (keywordEach [] X.env))):=by rfl):
   JE X (.Call (.Attribute o m apos) [] [] pos) (Y9 C m sp [] E0 ta Zd):=wc he c h.me G hr h.bi .nil QL ht
theorem wg {X:Cx} {C f:Addr} {fd:FuncData} {m qual:Str} {st:Stmt} {ps:List Str} {k:Nat} {sp:Sp} {o e:Expr} {es:List Expr} {ta:TE} {t:TA} {apos pos:Pos} {pl:Sem Bool} (h:YV X.K C m qual st ps f fd) (c:z7 X.K C) (G:qm X.prog X.w X.K X.mg X.base qO k f fd ps sp) (hr:qW k X.A) (he:JE X o ta) (ha:JA X (e::es) t)
   (hst:starEach (e::es) X.env=(false,eval e X.env)::starEach es X.env:=by rfl) (hpl:(backTo pos (starEach es X.env)).any (·.1)=false:=by rfl)
   (ht:eval (.Call (.Attribute o m apos) (e::es) [] pos) X.env=(do
     let ov <-eval o X.env
     standAt apos.atName
     let (f,first) <-holding [ov] (getMethod ov m pl)
     callWith pos f first (backTo pos (starEach (e::es) X.env)) (backToKw pos (keywordEach [] X.env))):=by rfl):
   JE X (.Call (.Attribute o m apos) (e::es) [] pos) (Y9 C m sp [] E0 ta t):=KD he c h.me G hr h.bi .nil QL ha hst hpl ht
structure GM (K:PySem.W.Frag) (mg:Str->Option Value) (CG:Addr):Prop where
 cls:∃f fd,MB K mg CG f fd
 nm:∃f fd,YV K CG "names" "Ground.names" ZC ["self"] f fd
 fr:∃f fd,YV K CG "roads_from" "Ground.roads_from" Yr ["self","name"] f fd
 isn:∃f fd,jq K mg "is_name" ZA ["thing"] f fd
theorem jQ.ins {CG:Addr} {H:Hp} {a:Addr} {rs:jt} (h:jQ CG H a rs):∃dx fs,H a=some (.ins CG dx fs)/\fs.lookup (Str.ofString "names")=none/\fs.lookup (Str.ofString "roads_from")=none:=by
 obtain⟨dx,lo,rd,kvs,h1,_⟩:=h
 refine⟨dx,_,h1,?_,?_⟩
 . have e1:((Str.ofString "names")==(Str.ofString "order"))=false:=by decide+kernel
   have e2:((Str.ofString "names")==(Str.ofString "roads"))=false:=by decide+kernel
   simp only[List.lookup]
   rw[e1,e2]
 . have e1:((Str.ofString "roads_from")==(Str.ofString "order"))=false:=by decide+kernel
   have e2:((Str.ofString "roads_from")==(Str.ofString "roads"))=false:=by decide+kernel
   simp only[List.lookup]
   rw[e1,e2]
theorem xR {rs:jt} {i:Nat} {y:V} (h:((rs.map (·.1)).map V.str)[i]?=some y):∃r,rs[i]?=some r/\r∈rs/\y=.str r.1:=by
 rw[List.getElem?_map,List.getElem?_map]at h
 cases e:rs[i]? with
 | none=>rw[e]at h;cases h
 | some r=>rw[e]at h;exact⟨r,rfl,List.mem_of_getElem? e,(Option.some.inj h).symm⟩
theorem J1 {zs:List Str} {i:Nat} {y:V} (h:(zs.map V.str)[i]?=some y):∃z,zs[i]?=some z/\z∈zs/\y=.str z:=by
 rw[List.getElem?_map]at h
 cases e:zs[i]? with
 | none=>rw[e]at h;cases h
 | some z=>rw[e]at h;exact⟨z,rfl,List.mem_of_getElem? e,(Option.some.inj h).symm⟩
theorem VX {rs:jt} (r:Str×List Str):(Jd rs r).length<=rs.length:=by
 have:=List.length_filter_le (λz=>ZM (.str z) (r.2.map V.str)) (rs.map (·.1))
 rwa [List.length_map]at this
theorem Qb {c:Bool} {A B:Prop} (hc:c=false) (h:B):if c=true then A else B:=by
 rw[hc]
 exact jf h
theorem QE {c:Bool} {A B:Prop} (hc:c=true) (h:A):if c=true then A else B:=by
 rw[if_pos hc]
 exact h
theorem uj {kvs:List (qE×V)}:∀{i:Nat} {k:qE} {v:V},(kvs.map (·.1)).Nodup->kvs[i]?=some (k,v)->ja kvs k=some v:=by
 induction kvs with
 | nil=>intro i k v _ e;simp at e
 | cons p r ih=>
   intro i k v hn e
   rw[List.map_cons,List.nodup_cons]at hn
   cases i with
   | zero=>
     rw[List.getElem?_cons_zero]at e
     obtain rfl:=Option.some.inj e
     exact jk rfl
   | succ i=>
     rw[List.getElem?_cons_succ]at e
     have:¬p.1=k:=λz=>hn.1 (z▸List.mem_map.mpr ⟨_,List.mem_of_getElem? e,rfl⟩)
     rw[jl this]
     exact ih hn.2 e
theorem vc {H:Hp}:∀(ps:List Addr) (rs:jt),jE H ps rs->∃qs:List Addr,qs.length=rs.length/\∀(i:Nat) (p q:Addr) (r:Str×List Str),ps[i]?=some p->rs[i]?=some r->qs[i]?=some q->H p=some (.tup [.str r.1,.ref q])/\H q=some (.tup (r.2.map V.str))
 | [],[],_=>⟨[],rfl,λi p q r e=>by simp at e⟩
 | [],_::_,h=>by cases h.1
 | _::_,[],h=>by cases h.1
 | p::ps,r::rs,h=>by
   obtain⟨qs,l,k⟩:=vc ps rs ⟨Nat.succ.inj h.1,λi a b e1 e2=>h.2 (i+1) a b (by simpa using e1) (by simpa using e2)⟩
   obtain⟨q,a,b⟩:=h.2 0 p r rfl rfl
   refine⟨q::qs,by simp [l],λi p' q' r' e1 e2 e3=>?_⟩
   cases i with
   | zero=>cases e1;cases e2;cases e3;exact⟨a,b⟩
   | succ i=>exact k i p' q' r' (by simpa using e1) (by simpa using e2) (by simpa using e3)
def Vn (rs:jt) (qs:List Addr):List (qE×V):=List.zipWith (λr q=>((Sum.inr r.1:qE),V.ref q)) rs qs
theorem J9:∀{rs:jt} {qs:List Addr},qs.length=rs.length->(Vn rs qs).map (·.1)=(rs.map (·.1)).map Sum.inr
 | [],[],_=>rfl
 | [],_::_,h=>by cases h
 | _::_,[],h=>by cases h
 | r::rs,q::qs,h=>by
   show Sum.inr r.1::(Vn rs qs).map (·.1)=_
   rw[J9 (Nat.succ.inj h)]
   rfl
theorem YF {rs:jt} {qs:List Addr} (h:qs.length=rs.length):(Vn rs qs).length=rs.length:=by
 have:=congrArg List.length (J9 h)
 simpa using this
theorem vq {rs:jt} {qs:List Addr} (h:qs.length=rs.length) {i:Nat} {r:Str×List Str} (e:rs[i]?=some r):∃q,qs[i]?=some q/\(Vn rs qs)[i]?=some (Sum.inr r.1,.ref q):=by
 have hi:i < qs.length:=by rw[h];exact(List.getElem?_eq_some_iff.mp e).1
 refine⟨qs[i],List.getElem?_eq_getElem hi,?_⟩
 unfold Vn
 rw[List.getElem?_zipWith,e,List.getElem?_eq_getElem hi]
theorem xZ {rs:jt} {qs:List Addr} (h:qs.length=rs.length) {i:Nat} {kv:qE×V} (e:(Vn rs qs)[i]?=some kv):∃r q,rs[i]?=some r/\qs[i]?=some q/\kv=(Sum.inr r.1,.ref q):=by
 have hi:i < rs.length:=by rw[<-YF h];exact(List.getElem?_eq_some_iff.mp e).1
 obtain⟨q,e1,e2⟩:=vq h (List.getElem?_eq_getElem hi)
 rw[e2]at e
 exact⟨_,q,List.getElem?_eq_getElem hi,e1,(Option.some.inj e).symm⟩
theorem vz {rs:jt} (g:qB rs) {r:Str×List Str} (h:r∈rs) {y:Str}:y∈Js rs r.1↔y∈r.2:=by
 rw[zX g.nd h]
 exact y6 g h
theorem xW:∀{l:List Nat} {x:Nat},x∈l->x<=l.sum
 | a::l,x,h=>by
   rw[List.sum_cons]
   rcases List.mem_cons.mp h with e | h
   . omega
   . have:=xW h
     omega
theorem qB.two {rs:jt} (g:qB rs) {r:Str×List Str} (h:r∈rs):r.2.length<=40:=by
 refine Nat.le_trans ?_ g.few
 exact xW (List.mem_map.mpr ⟨r,h,rfl⟩)
theorem RC {σ:L2.St} {H:Hp} {Q:List V->Hp->Prop} (h:Q [] H):Zd σ H Q:=h
theorem j2 {H H':Hp} {a:Addr} (s:Same H H') (h:H' a=none):H a=none:=by
 cases z:H a with
 | none=>rfl
 | some u=>rw[s _ _ z]at h;cases h
theorem V5 {z:Str} (h:jo z=true):(∀c∈z.cps.toList,c<=122)/\z.length<=8/\1<=z.length:=by
 unfold jo at h
 simp only[Bool.and_eq_true,decide_eq_true_eq]at h
 refine⟨λc hc=>?_,h.1.2,h.1.1⟩
 have:=List.all_eq_true.mp h.2 c hc
 unfold jB at this
 simp only[Bool.and_eq_true,decide_eq_true_eq]at this
 exact this.2
theorem ZG {z:Str} (h:jo z=true):PyData.strOk z=true:=by
 unfold PyData.strOk
 rw[Array.all_eq_true_iff_forall_mem]
 intro c hc
 have:=(V5 h).1 c (by simpa using hc)
 exact decide_eq_true (by omega)
def dL (zs:List Str):PyData:=.list (zs.map PyData.str)
theorem VF {K:PySem.W.Frag} {H:Hp}:∀zs:List Str,DVs K H (zs.map V.str) (zs.map PyData.str)
 | []=>.nil
 | z::zs=>.cons (.str z) (VF zs)
theorem qaD {K:PySem.W.Frag} {H:Hp} {p:Addr} {zs:List Str} (h:H p=some (.lst (zs.map V.str))):DV K H (.ref p) (dL zs):=.lst (.of h) (VF zs)
theorem Mr:∀{zs:List Str},(∀z∈zs,jo z=true)->PyData.canLayAll0 (zs.map PyData.str)=true
 | [],_=>rfl
 | z::zs,h=>by
   rw[List.map_cons,PyData.canLayAll0,Mr λy hy=>h y (List.mem_cons_of_mem _ hy),Bool.and_true]
   exact ZG (h z List.mem_cons_self)
theorem wQ {K:PySem.W.Frag} {H:Hp} {l:Addr} {ps:List Addr} {rs:jt} (g:Qw H l ps rs) {Q:VK}
   (q:∀dd kvs,H dd=none->kvs.map (·.1)=(rs.map (·.1)).map Sum.inr->(∀r∈rs,∃t,ja kvs (Sum.inr r.1:qE)=some (.ref t)/\H t=some (.tup (r.2.map V.str)))->Q (.ref dd) (upd H dd (.dK kvs))):xc K [.ref l] H Q:=by
 obtain⟨qs,lq,hqs⟩:=vc ps rs g.rows
 have le:=g.le
 refine⟨l,ps,Vn rs qs,rfl,.of g.at_,by rw[YF lq,g.rows.1],λi a kv e1 e2=>?_,by rw[YF lq];omega,λdd hdd=>?_⟩
 . obtain⟨r',q',f1,f2,rfl⟩:=xZ lq e2
   exact .of (hqs i a q' r' e1 f1 f2).1
 have nk:((Vn rs qs).map (·.1)).Nodup:=by
   rw[J9 lq]
   exact J6 g.good.nd λa _ b _ e=>Sum.inr.inj e
 rw[Xj nk (λk _ m=>by simp at m),List.nil_append]
 refine q dd _ hdd (J9 lq) λr hr=>?_
 obtain⟨i0,hi0⟩:=List.getElem?_of_mem hr
 obtain⟨q0,eq0,ekv⟩:=vq lq hi0
 have hi0':=(List.getElem?_eq_some_iff.mp hi0).1
 exact⟨q0,uj nk ekv,(hqs i0 _ q0 r (List.getElem?_eq_getElem (by rw[g.rows.1];exact hi0')) hi0 eq0).2⟩
section
variable {P:Program} {w:World} {K:PySem.W.Frag} {mg:Str->Option Value} {base:Heap}
theorem wS (x:Int):Builtin.bitNot (Builtin.bitNot x)=x:=by unfold Builtin.bitNot;omega
theorem bo (a b:Nat):Builtin.bitOr a b=((a ||| b:Nat):Int):=by
 have na:¬(0:Int)<=Builtin.bitNot a:=by unfold Builtin.bitNot;omega
 have nb:¬(0:Int)<=Builtin.bitNot b:=by unfold Builtin.bitNot;omega
 have e:Builtin.bitAnd (Builtin.bitNot a) (Builtin.bitNot b)=Builtin.bitNot (((Builtin.bitNot (Builtin.bitNot a)).toNat ||| (Builtin.bitNot (Builtin.bitNot b)).toNat:Nat):Int):=by
   unfold Builtin.bitAnd
   rw[decide_eq_false na,decide_eq_false nb]
 unfold Builtin.bitOr
 rw[e,wS,wS,wS,Int.toNat_natCast,Int.toNat_natCast]
theorem ba (a b:Nat):Builtin.bitAnd a b=((a&&& b:Nat):Int):=by
 unfold Builtin.bitAnd
 rw[decide_eq_true (Int.natCast_nonneg a),decide_eq_true (Int.natCast_nonneg b)]
 rfl
def Jg (ns:List Nat):List V:=ns.map λn=>V.int (n:Nat)
theorem Jr (ns:List Nat):(Jg ns).length=ns.length:=List.length_map ..
theorem Wx {ns:List Nat} {i:Nat} {x:V} (h:(Jg ns)[i]?=some x):∃n:Nat,ns[i]?=some n/\x=.int n:=by
 unfold Jg at h
 rw[List.getElem?_map]at h
 cases e:ns[i]? with
 | none=>rw[e]at h;cases h
 | some n=>rw[e]at h;exact⟨n,rfl,(Option.some.inj h).symm⟩
theorem ZY {ns:List Nat} {i n:Nat} (h:ns[i]?=some n):ns.take (i+1)=ns.take i++[n]:=by
 rw[List.take_add_one,h]
 rfl
theorem YJ (ns:List Nat) (n:Nat):Jg ns++[V.int (n:Nat)]=Jg (ns++[n]):=by unfold Jg;rw[List.map_append];rfl
theorem JX (ns:List Nat):(Jg ns).all JB=true:=by
 unfold Jg
 rw[List.all_map]
 exact List.all_eq_true.mpr λ_ _=>rfl
theorem zb (ns:List Nat) (n:Nat):ZM (.int (n:Nat)) (Jg ns)=decide (n∈ns):=by
 unfold ZM Jg
 rw[List.any_map,Bool.eq_iff_iff,List.any_eq_true,decide_eq_true_iff]
 constructor
 . rintro⟨y,hy,e⟩
   have e':((y:Int)==(n:Int))=true:=e
   have:y=n:=by
     have:=eq_of_beq e'
     omega
   exact this▸hy
 . intro h
   refine⟨n,h,?_⟩
   show ((n:Int)==(n:Int))=true
   simp
def Xb (K:PySem.W.Frag):Sp:=λvs H Q _=>∃(a:Addr) (ns:List Nat),vs=[.ref a]/\SqL K H a (Jg ns)/\ns.length<=1000/\∀H',Same H H'->Q (.int (Rb.lackN ns:Nat)) H'
def XQ (K:PySem.W.Frag):Sp:=λvs H Q _=>∃(a:Addr) (ns:List Nat),vs=[.ref a]/\SqL K H a (Jg ns)/\(∀x∈ns,x < 1000)/\Q (.int (Rb.setN ns:Nat)) H
theorem zL:qr ["numbers","bits","number"] ["numbers"] (qj Z0):=⟨rfl,rfl,rfl,by decide+kernel,rfl,by decide+kernel,by decide+kernel⟩
theorem Vd {f:Addr} {fd:FuncData} (F:jM K "set_of" "set_of" Z0 f fd):qm P w K mg base qO 1 f fd ["numbers"] (XQ K):=by
 refine F.okJ zL (λvs H Q E h=>?_) (λcdv A outer s H vs Q E hr h=>?_)
 . obtain⟨a,ns,rfl,_⟩:=h
   rfl
 . obtain⟨a,ns,rfl,hS,hb,q⟩:=h
   refine⟨_,qe (qw (i:=1) zL.nd rfl (Or.inl rfl) qi)
     (qe (jc PassesOwn.never rfl (qH (jv 0)) (qt (i:=2) zL.nd rfl (Or.inl rfl)) (qg (qw (i:=1) zL.nd rfl (Or.inl rfl) (qN N6 (jv 1) (qN V1 qi (jv 2))))))
     (qg (qv (jv 1)))),?_⟩
   refine⟨_,rfl,a,rfl,⟨_,hS⟩,?_⟩
   refine jm (K:=K) (a:=a) (xs:=Jg ns) (λi σ H'=>∃v,σ=[some (.ref a),some (.int ((Rb.setN (ns.take i):Nat):Int)),v]/\H'=H) ⟨none,rfl,rfl⟩ (λi σ H' _ ⟨_,_,e⟩=>e▸hS) ?_ ?_
   . rintro i x σ H' hx ⟨v,rfl,rfl⟩
     obtain⟨n,hn,rfl⟩:=Wx hx
     have n1:=hb n (List.mem_of_getElem? hn)
     have e1:(1:Int)*2^ ((n:Nat):Int).toNat=((2^n:Nat):Int):=by rw[Int.toNat_natCast,Int.one_mul];push_cast;rfl
     have e:((Rb.setN (ns.take (i+1)):Nat):Int)=Builtin.bitOr (Rb.setN (ns.take i):Nat) ((1:Int)*2^ ((n:Nat):Int).toNat):=by rw[e1,bo,ZY hn,Rb.setN_snoc]
     refine⟨_,rfl,_,rfl,_,_,rfl,rfl,⟨by omega,by omega,by decide⟩,_,_,rfl,rfl,some (.int n),?_,rfl⟩
     rw[e]
     rfl
   . rintro σ H' ⟨v,rfl,rfl⟩
     refine⟨_,rfl,?_⟩
     rw[Jr,List.take_of_length_le (Nat.le_refl _)]
     exact q
theorem Ja:qr ["numbers","there","number","least"] ["numbers"] (qj Qp):=⟨rfl,rfl,rfl,by decide+kernel,rfl,by decide+kernel,by decide+kernel⟩
theorem V4 {f:Addr} {fd:FuncData} (F:jM K "lacking" "lacking" Qp f fd):qm P w K mg base qO 1 f fd ["numbers"] (Xb K):=by
 refine F.okJ Ja (λvs H Q E h=>?_) (λcdv A outer s H vs Q E hr h=>?_)
 . obtain⟨a,ns,rfl,_⟩:=h
   rfl
 . obtain⟨a,ns,rfl,hS,hl,q⟩:=h
   have hu:=jV hr
   refine⟨_,qe (qw (i:=1) Ja.nd rfl (Or.inl rfl) jU)
     (qe (jc PassesOwn.never rfl (qH (jv 0)) (qt (i:=2) Ja.nd rfl (Or.inl rfl)) (qg (je hu (jv 1) (jv 2) jG rfl)))
     (qe (qw (i:=3) Ja.nd rfl (Or.inl rfl) qi)
     (qe (ZI PassesOwn.never (Qa (JV hu (jv 3) (jv 1)) (by with_unfolding_all rfl)) (qg (x6 (i:=3) Ja.nd rfl (Or.inl rfl) qi wv)))
     (qg (qv (jv 3)))))),?_⟩
   intro D hD
   refine⟨_,rfl,a,rfl,⟨_,(qk hD).seq hS⟩,?_⟩
   refine jm (K:=K) (a:=a) (xs:=Jg ns) (λi σ H'=>∃v kvs,σ=[some (.ref a),some (.ref D),v,none]/\H'=upd H D (.dK kvs)/\kvs.length<=i/\∀x:Nat,(ja kvs (Sum.inl (x:Int):qE)).isSome=decide (x∈ns.take i)) ⟨none,[],rfl,rfl,Nat.le_refl _,λx=>by simp [ja]⟩
     (λi σ H' _ ⟨_,_,_,e,_⟩=>e▸(qk hD).seq hS) ?_ ?_
   . rintro i x σ H' hx ⟨v,kvs,rfl,rfl,hk,hv⟩
     obtain⟨n,hn,rfl⟩:=Wx hx
     have hi:i < ns.length:=(List.getElem?_eq_some_iff.mp hn).1
     refine⟨_,rfl,_,rfl,D,_,rfl,QR.k (k:=(Sum.inl (n:Int):qE)) qd (qp (by omega)),?_⟩
     refine⟨some (.int n),jA kvs (Sum.inl (n:Int)) (.bl true),rfl,jr,?_,λx=>?_⟩
     . have:=QV kvs (Sum.inl (n:Int):qE) (.bl true)
       omega
     . rw[jS,ZY hn]
       by_cases e:x=n
       . subst e;simp
       . have e':¬(Sum.inl (x:Int):qE)=Sum.inl (n:Int):=λz=>e (by have:=Sum.inl.inj z;omega)
         rw[if_neg e',hv x,Bool.eq_iff_iff]
         simp [e]
   . rintro σ H' ⟨v,kvs,rfl,rfl,hk,hv⟩
     rw[Jr,List.take_of_length_le (Nat.le_refl _)]at hv
     refine Zv (λσ H'=>∃r:Nat,σ=[some (.ref a),some (.ref D),v,some (.int r)]/\H'=upd H D (.dK kvs)/\∀x,x < r->x∈ns) (λσ _=>match σ with | [_,_,_,some (.int r)]=>ns.length - r.toNat | _=>0) ⟨0,rfl,rfl,λx hx=>absurd hx (Nat.not_lt_zero _)⟩ ?_ ?_
     . rintro σ H' ⟨r,rfl,rfl,hr'⟩
       refine⟨_,rfl,_,rfl,D,_,rfl,jW.k (k:=(Sum.inl (r:Int):qE)) qd,_,rfl,?_⟩
       rw[hv r]
       by_cases hm:r∈ns
       . rw[decide_eq_true hm]
         have hp:=Rb.pigeon (r+1) ns λx hx=>by
           by_cases e:x=r
           . rw[e];exact hm
           . exact hr' x (by omega)
         refine jP ⟨_,rfl,_,_,rfl,rfl,⟨r+1,rfl,rfl,λx hx=>?_⟩,?_⟩
         . by_cases e:x=r
           . rw[e];exact hm
           . exact hr' x (by omega)
         . show ns.length - ((r:Int)+1).toNat < ns.length - (r:Int).toNat
           omega
       . rw[decide_eq_false hm]
         refine jf ⟨_,rfl,?_⟩
         have e:=Rb.lackN_eq (r:=r) (ns:=ns) ⟨hm,hr'⟩
         have:=q _ (qk (o:=.dK kvs) hD)
         rw[<-e]at this
         exact this
     . rintro σ H Q Q' h1 ⟨v,e,w,e2,a,o,e3,g,k,e4,q⟩
       exact⟨v,e,w,e2,a,o,e3,g,k,e4,h1 _ _ q⟩
end
end Rh
set_option Elab.async false
set_option linter.all false
set_option maxRecDepth 100000
set_option maxHeartbeats 4000000
namespace Rh
open PySem L2 PyProof.Rows MLab
abbrev Gj:Stmt:=top 40
abbrev Yq:Stmt:=top 41
abbrev Z1:Stmt:=top 42
abbrev W4:Stmt:=top 43
abbrev Wf:Stmt:=top 44
abbrev zO:Stmt:=top 45
structure qR (N:List Str) (H:Hp) (d:Addr) (f:Str->Option Nat):Prop where
 at_:∃kvs:List (qE×V),H d=some (.dK kvs)/\(∀z:Str,ja kvs (Sum.inr z:qE)=(f z).map λn=>V.int (n:Nat))/\(kvs.map (·.1)).Nodup/\∀k∈kvs.map (·.1),k∈N.map (Sum.inr:Str->qE)
theorem qR.mono {N:List Str} {H H':Hp} {d:Addr} {f:Str->Option Nat} (h:qR N H d f) (s:Same H H'):qR N H' d f:=⟨let ⟨kvs,a,b⟩:=h.at_;⟨kvs,s _ _ a,b⟩⟩
theorem qR.get {N:List Str} {H:Hp} {d:Addr} {f:Str->Option Nat} (h:qR N H d f) (z:Str):jW H d (.str z) ((f z).map λn=>V.int (n:Nat)):=by
 obtain⟨kvs,a,b,_⟩:=h.at_
 rw[<-b z]
 exact jW.k (k:=(Sum.inr z:qE)) a
theorem qR.isd {N:List Str} {H:Hp} {d:Addr} {f:Str->Option Nat} (h:qR N H d f):∃kvs:List (qE×V),H d=some (.dK kvs):=let ⟨kvs,a,_⟩:=h.at_;⟨kvs,a⟩
theorem qR.put {N:List Str} {H:Hp} {d:Addr} {f:Str->Option Nat} (h:qR N H d f) {z:Str} {n:Nat} (hz:z∈N) (hf:f z=none) (le:N.length<=14):∃H',QR H d (.str z) (.int (n:Nat)) H'/\qR N H' d (λy=>if y=z then some n else f y)/\∃o,H'=upd H d o:=by
 obtain⟨kvs,a,b,nd,sub⟩:=h.at_
 have ln:kvs.length<=14:=by
   have:=Jp nd sub
   rw[List.length_map,List.length_map]at this
   omega
 refine⟨_,QR.k (k:=(Sum.inr z:qE)) a (qp (by omega)),⟨jA kvs (Sum.inr z) (.int (n:Nat)),qd,λy=>?_,?_,?_⟩,_,rfl⟩
 . rw[jS]
   by_cases e:y=z
   . subst e;rw[if_pos rfl,if_pos rfl];rfl
   . rw[if_neg e,if_neg (λq=>e (Sum.inr.inj q))];exact b y
 . rw[Je _ (by rw[b z,hf];rfl),List.map_append]
   refine List.nodup_append.mpr ⟨nd,List.pairwise_singleton _ _,λx hx y hy e=>?_⟩
   have ey:y=Sum.inr z:=by simpa using hy
   subst ey
   subst e
   have:(ja kvs (Sum.inr z:qE)).isSome=true:=by
     obtain⟨p,hp,ep⟩:=List.mem_map.mp hx
     have an:(kvs.any λkv=>decide (kv.1=(Sum.inr z:qE)))=true:=List.any_eq_true.mpr ⟨p,hp,decide_eq_true ep⟩
     rw[Qo]at an
     exact an
   rw[b z,hf]at this
   cases this
 . rw[Je _ (by rw[b z,hf];rfl),List.map_append]
   intro k hk
   rcases List.mem_append.mp hk with hk | hk
   . exact sub k hk
   . have:k=Sum.inr z:=by simpa using hk
     rw[this]
     exact List.mem_map.mpr ⟨z,hz,rfl⟩
def ZU (rs:jt) (f:Str->Option Nat) (z:Str):List Nat:=(Js rs z).filterMap f
theorem Qm {rs:jt} {f:Str->Option Nat} {z:Str} {n:Nat}:n∈ZU rs f z↔∃y∈Js rs z,f y=some n:=List.mem_filterMap
theorem vy {rs:jt} (z:Str):(Js rs z).length<=rs.length:=by
 unfold Js
 split
 . exact VX _
 . exact Nat.zero_le _
def Xy (rs:jt) (f:Str->Option Nat) (z:Str):List Str:=(Js rs z).filter λy=>(f y).isNone
def ZO (rs:jt) (f:Str->Option Nat) (z:Str) (n:Nat):Bool:=decide (Rb.lackN (ZU rs f z)=n)&&(Xy rs f z).all λy=>decide (n∈ZU rs f y)
theorem yg {rs:jt} {f:Str->Option Nat} {z:Str} {n:Nat}:ZO rs f z n=true↔ZT (Js rs) f z n:=by
 unfold ZO ZT Xy
 rw[Bool.and_eq_true,decide_eq_true_iff,List.all_eq_true]
 have lk:Rb.Lacks (Rb.lackN (ZU rs f z)) (ZU rs f z):=Rb.lackI_lacks _
 constructor
 . rintro⟨rfl,h⟩
   refine⟨λj hj=>Qm.mp (lk.2 j hj),λy hy e=>lk.1 (Qm.mpr ⟨y,hy,e⟩),λy hy e=>?_⟩
   exact Qm.mp (of_decide_eq_true (h y (List.mem_filter.mpr ⟨hy,by rw[e];rfl⟩)))
 . rintro⟨h1,h2,h3⟩
   refine⟨(Rb.lackN_eq ⟨λm=>?_,λx hx=>Qm.mpr (h1 x hx)⟩).symm,λy hy=>decide_eq_true ?_⟩
   . obtain⟨y,hy,e⟩:=Qm.mp m
     exact h2 y hy e
   . obtain⟨hy1,hy2⟩:=List.mem_filter.mp hy
     exact Qm.mpr (h3 y hy1 (by simpa using hy2))
def y3 (rs:jt) (f:Str->Option Nat) (n:Nat):List Str:=((rs.map (·.1)).filter λz=>(f z).isNone).filter λz=>ZO rs f z n
theorem uZ (rs:jt) (R:Rs Str) (n:Nat):vQ (Js rs) (rs.map (·.1)) R n (y3 rs (qC R) n):=⟨λx=>by
 unfold y3
 rw[List.mem_filter,List.mem_filter,yg]
 constructor
 . rintro⟨⟨a,b⟩,c⟩
   exact⟨a,by simpa using b,c⟩
 . rintro⟨a,b,c⟩
   exact⟨⟨a,by rw[b];rfl⟩,c⟩,List.filter_sublist.trans List.filter_sublist⟩
def uA (CG:Addr):Sp:=λvs H Q _=>∃(g d:Addr) (rs:jt) (z:Str) (f:Str->Option Nat),vs=[.ref g,.ref d,.str z]/\jQ CG H g rs/\qB rs/\rs.length<=14/\z∈rs.map (·.1)/\qR (rs.map (·.1)) H d f/\
 ∀H' l,Same H H'->H l=none->H' l=some (.lst (Jg (ZU rs f z)))->Q (.ref l) H'
def yO (CG:Addr):Sp:=λvs H Q _=>∃(g d:Addr) (rs:jt) (z:Str) (f:Str->Option Nat) (n:Nat),vs=[.ref g,.ref d,.str z,.int (n:Nat)]/\jQ CG H g rs/\qB rs/\rs.length<=14/\z∈rs.map (·.1)/\qR (rs.map (·.1)) H d f/\
 ∀H',Same H H'->Q (.bl (ZO rs f z n)) H'
def UQ (CG:Addr):Sp:=λvs H Q _=>∃(g d:Addr) (rs:jt) (f:Str->Option Nat) (n:Nat),vs=[.ref g,.ref d,.int (n:Nat)]/\jQ CG H g rs/\qB rs/\rs.length<=14/\qR (rs.map (·.1)) H d f/\
 ∀H' l,Same H H'->H l=none->H' l=some (.lst ((y3 rs f n).map V.str))->Q (.ref l) H'
theorem V7 {α β:Type} (g:α->Option β) (h:β->V):∀l:List α,(l.filterMap g).map h=l.filterMap λx=>(g x).map h
 | []=>rfl
 | a::l=>by
   rw[List.filterMap_cons,List.filterMap_cons]
   cases g a with
   | none=>exact V7 g h l
   | some b=>rw[List.map_cons,V7 g h l];rfl
theorem YM (p:Str->Bool):∀l:List Str,(l.filter p).map V.str=l.filterMap λx=>if p x=true then some (V.str x) else none
 | []=>rfl
 | a::l=>by
   rw[List.filter_cons,List.filterMap_cons]
   cases p a with
   | false=>exact YM p l
   | true=>
     rw[if_pos rfl,if_pos rfl,List.map_cons,YM p l]
theorem vo {α:Type} (f:α->V):∀l:List α,l.map f=l.filterMap λx=>some (f x)
 | []=>rfl
 | a::l=>by rw[List.map_cons,List.filterMap_cons,vo f l]
section
variable {P:Program} {w:World} {K:PySem.W.Frag} {mg:Str->Option Value} {base:Heap}
abbrev w9:List Str:=["ground","numbered","name"]
theorem MY:qr w9 w9 (qj Gj):=⟨rfl,rfl,rfl,by decide+kernel,rfl,by decide+kernel,by decide+kernel⟩
theorem Go {f CG:Addr} {fd:FuncData} (F:jM K "numbers_behind" "numbers_behind" Gj f fd) (B:QJ mg) (G:Qv mg) (T:QQ K mg) (M:GM K mg CG):qm P w K mg base qO 3 f fd w9 (uA CG):=by
 obtain⟨fC,fdC,C⟩:=M.cls
 obtain⟨fR,fdR,hR⟩:=M.fr
 obtain⟨fN,fdN,hN⟩:=M.isn
 have GR:qm P w K mg base qO 2 fR fdR ["self","name"] (XZ CG):=Vh hR.fn C B G T hN
 refine F.okJ MY (λvs H Q E h=>?_) (λcdv A outer s H vs Q E hr h=>?_)
 . obtain⟨g,d,rs,z,nf,rfl,_⟩:=h
   rfl
 . obtain⟨g,d,rs,z,nf,rfl,gr,good,le14,hz,hd,q⟩:=h
   have hu:=jV hr
   refine⟨_,qg (qv (j3 (N':=["end","numbered"]) (ix:=[none,some 1]) rfl ⟨rfl,rfl,rfl,rfl,rfl⟩ (qH (wg hR C.cl GR hr (jv 0) (qb (jv 2) qf))) (λC s2 H2 fp pins=>
     ⟨qt (i:=0) (show (["end","numbered"]:List Str).Nodup by decide+kernel) rfl (Or.inl rfl),jy (Qa (JV hu (jv 0) (jv 1))),qL hu (jv 1) (jv 0) (λ_ _=>rfl)⟩))),?_⟩
   obtain⟨dx,fs,hg,l1,l2⟩:=gr.ins
   obtain⟨r,hr',rfl⟩:=List.mem_map.mp hz
   refine⟨_,rfl,g,dx,fs,rfl,hg,l2,_,rfl,g,rs,r,rfl,gr,hr',good.nm r hr',λH1 le s1 hle=>?_⟩
   have s2:Same H (upd H1 le (.lst ((Jd rs r).map V.str))):=s1.trans (qk hle)
   have hl2:upd H1 le (.lst ((Jd rs r).map V.str)) le=some (.lst ((Jd rs r).map V.str)):=qd
   generalize upd H1 le (.lst ((Jd rs r).map V.str))=H2 at s2 hl2
   have hd2:=hd.mono s2
   refine⟨le,rfl,⟨_,.of hl2⟩,λW hW=>?_⟩
   refine zg (K:=K) (a:=le) (xs:=Jd rs r) (enc:=V.str) (out:=λy=>(nf y).map λn=>V.int (n:Nat)) (rest:=[some (.ref d)]) hW hl2 (qp (Nat.le_trans (VX r) (by omega))) ?_ ?_ ?_
   . intro x hx G' s3 R k
     refine⟨_,rfl,_,rfl,d,_,rfl,(hd2.mono s3).get x,_,rfl,k G' λ_ _ h=>h⟩
   . intro x hx v ev G' s3 R k
     have gx:=(hd2.mono s3).get x
     rw[ev]at gx
     exact⟨_,rfl,_,rfl,d,_,rfl,gx,k G' λ_ _ h=>h⟩
   . intro G' s3 hG
     refine q _ W (s2.trans s3) (j2 s2 hW) ?_
     rw[hG]
     congr 2
     unfold Jg ZU
     rw[zX good.nd hr',V7]
abbrev Mc:List Str:=["ground","numbered","name","number","bare"]
abbrev Yy:List Str:=["ground","numbered","name","number"]
theorem yZ:qr Mc Yy (qj Yq):=⟨rfl,rfl,rfl,by decide+kernel,rfl,by decide+kernel,by decide+kernel⟩
theorem Kl {f fB fL CG:Addr} {fd fdB fdL:FuncData} (F:jM K "gets_number" "gets_number" Yq f fd) (B:QJ mg) (G:Qv mg) (T:QQ K mg) (M:GM K mg CG) (hB:jq K mg "numbers_behind" Gj w9 fB fdB) (hL:jq K mg "lacking" Qp ["numbers"] fL fdL):qm P w K mg base qO 4 f fd Yy (yO CG):=by
 have GB:qm P w K mg base qO 3 fB fdB w9 (uA CG):=Go hB.fn B G T M
 have GL:qm P w K mg base qO 1 fL fdL ["numbers"] (Xb K):=V4 hL.fn
 obtain⟨fC,fdC,C⟩:=M.cls
 obtain⟨fR,fdR,hR⟩:=M.fr
 obtain⟨fN,fdN,hN⟩:=M.isn
 have GR:qm P w K mg base qO 2 fR fdR ["self","name"] (XZ CG):=Vh hR.fn C B G T hN
 refine F.okJ yZ (λvs H Q E h=>?_) (λcdv A outer s H vs Q E hr h=>?_)
 . obtain⟨g,d,rs,z,nf,n,rfl,_⟩:=h
   rfl
 . obtain⟨g,d,rs,z,nf,n,rfl,gr,good,le14,hz,hd,q⟩:=h
   have hu:=jV hr
   have r1:qW 1 _:=hr.mono (by decide)
   have r2:qW 2 _:=hr.mono (by decide)
   refine⟨_,qe (qM (qu Vb (qJ hL GL r1 (by rfl) (qb (qJ hB GB hr (by rfl) (qb (jv 0) (qb (jv 1) (qb (jv 2) qf)))) qf)) (jv 3) (qy _)) (qg (qv jG)) qz)
     (qe (Qr (i:=4) (N':=["end","numbered"]) (ix:=[none,some 1]) yZ.nd rfl (Or.inl rfl) rfl ⟨rfl,rfl,rfl,rfl,rfl⟩ (qH (wg hR C.cl GR r2 (jv 0) (qb (jv 2) qf))) (λC s2 H2 fp pins=>
       ⟨qt (i:=0) (show (["end","numbered"]:List Str).Nodup by decide+kernel) rfl (Or.inl rfl),jy (Qa (QH hu (jv 0) (jv 1))),jv 0⟩))
     (qg (qv (qA (zf rfl) (by rfl) T.all boot_all (qb (j3 (N':=["end","number","ground","numbered"]) (ix:=[none,some 3,some 0,some 1]) (te:=zH (Nw K false) (qU 1) (zj (uA CG) [] E0 (jI (qU 2) (jI (qU 3) (jI (qU 0) Zd))))) rfl ⟨rfl,rfl,rfl,rfl,rfl⟩ (qH (jv 4)) (λC s2 H2 fp pins=>
       ⟨qt (i:=0) (show (["end","number","ground","numbered"]:List Str).Nodup by decide+kernel) rfl (Or.inl rfl),jO,ju Jf (jv 1) (qJ hB GB hr (by rfl) (qb (jv 2) (qb (jv 3) (qb (jv 0) qf)))) (by with_unfolding_all rfl)⟩)) qf))))),?_⟩
   refine⟨_,rfl,_,rfl,_,rfl,g,d,rs,z,nf,rfl,gr,good,le14,hz,hd,λH1 l1 s1 hl1 hl1'=>?_⟩
   have ln:∀y,(ZU rs nf y).length<=14:=λy=>Nat.le_trans (List.length_filterMap_le _ _) (Nat.le_trans (vy y) le14)
   refine⟨l1,_,rfl,.of hl1',by have:=ln z;omega,λH2 s2=>⟨_,rfl,rfl,_,rfl,?_⟩⟩
   have s12:=s1.trans s2
   by_cases c:Rb.lackN (ZU rs nf z)=n
   . refine Qb (by rw[c];simp) ?_
     obtain⟨dx,fs,hg,e1,e2⟩:=(gr.mono s12).ins
     obtain⟨r,hr',rfl⟩:=List.mem_map.mp hz
     refine⟨_,rfl,g,dx,fs,rfl,hg,e2,_,rfl,g,rs,r,rfl,gr.mono s12,hr',good.nm r hr',λH3 le s3 hle=>?_⟩
     have s4:Same H (upd H3 le (.lst ((Jd rs r).map V.str))):=s12.trans (s3.trans (qk hle))
     have hl4:upd H3 le (.lst ((Jd rs r).map V.str)) le=some (.lst ((Jd rs r).map V.str)):=qd
     generalize upd H3 le (.lst ((Jd rs r).map V.str))=H4 at s4 hl4
     refine⟨le,rfl,⟨_,.of hl4⟩,λW hW=>?_⟩
     refine zg (K:=K) (a:=le) (xs:=Jd rs r) (enc:=V.str) (out:=λy=>if (nf y).isNone=true then some (V.str y) else none) (rest:=[some (.ref d)]) hW hl4 (qp (Nat.le_trans (VX r) (by omega))) ?_ ?_ ?_
     . intro x hx G' s5 R k
       refine⟨_,rfl,_,rfl,d,_,rfl,((hd.mono s4).mono s5).get x,_,rfl,?_⟩
       have:=k G' λ_ _ h=>h
       cases e:nf x with
       | none=>rw[e]at this;exact this
       | some m=>rw[e]at this;exact this
     . intro x hx v ev G' s5 R k
       have:v=V.str x:=by
         split at ev
         . exact(Option.some.inj ev).symm
         . cases ev
       subst this
       exact⟨_,rfl,k G' λ_ _ h=>h⟩
     . intro G5 s5 hG
       rw[<-YM (λy=>(nf y).isNone),<-zX good.nd hr']at hG
       have hb:G5 W=some (.lst ((Xy rs nf r.1).map V.str)):=hG
       have s45:=s4.trans s5
       refine⟨_,rfl,W,rfl,⟨_,.of hb⟩,λU hU=>?_⟩
       have bl:(Xy rs nf r.1).length<=14:=Nat.le_trans (List.length_filter_le _ _) (Nat.le_trans (vy r.1) le14)
       refine zg (K:=K) (a:=W) (xs:=Xy rs nf r.1) (enc:=V.str) (out:=λy=>some (V.bl (decide (n∈ZU rs nf y)))) (rest:=[some (.int (n:Nat)),some (.ref g),some (.ref d)]) hU hb (qp (by omega)) ?_ ?_ ?_
       . intro x hx G' s6 R k
         exact k G' λ_ _ h=>h
       . intro x hx v ev G' s6 R k
         obtain rfl:=Option.some.inj ev
         have hxN:x∈rs.map (·.1):=JY good.nd _ hz x (List.mem_filter.mp hx).1
         have sA:=s45.trans s6
         refine⟨_,rfl,_,rfl,_,rfl,_,rfl,g,d,rs,x,nf,rfl,gr.mono sA,good,le14,hxN,hd.mono sA,λH7 l7 s7 hl7 hl7'=>?_⟩
         refine⟨l7,_,rfl,.inl (.of hl7'),rfl,JX _,?_⟩
         rw[zb]
         exact k H7 s7
       . intro G6 s6 hG6
         rw[<-vo]at hG6
         refine⟨U,(Xy rs nf r.1).map λy=>decide (n∈ZU rs nf y),rfl,.of (by rw[hG6,List.map_map];rfl),?_⟩
         have:=q G6 (s45.trans s6)
         unfold ZO at this
         rw[decide_eq_true c,Bool.true_and]at this
         rw[List.all_map]
         exact this
   . refine QE (by
       have:¬V.int ((Rb.lackN (ZU rs nf z):Nat):Int)=V.int ((n:Nat):Int):=λe=>c (by have:=V.int.inj e;omega)
       rw[decide_eq_false this];rfl) ?_
     have:=q H2 s12
     unfold ZO at this
     rw[decide_eq_false c,Bool.false_and]at this
     exact this
end
end Rh
set_option Elab.async false
set_option linter.all false
set_option maxRecDepth 100000
set_option maxHeartbeats 4000000
namespace Rh
open PySem L2 PyProof.Rows MLab
def jg (H:Hp) (ps:List Addr) (ls:List (List Str)):Prop:=ps.length=ls.length/\∀(i:Nat) (p:Addr) (l:List Str),ps[i]?=some p->ls[i]?=some l->H p=some (.lst (l.map V.str))
theorem jg.mono {H H':Hp} {ps:List Addr} {ls:List (List Str)} (h:jg H ps ls) (s:Same H H'):jg H' ps ls:=⟨h.1,λi p l e1 e2=>s _ _ (h.2 i p l e1 e2)⟩
theorem jg.nil {H:Hp}:jg H [] []:=⟨rfl,λi p l e=>(nomatch e)⟩
theorem Qz {α:Type} {xs:List α} {x y:α} {i:Nat} (h:(xs++[x])[i]?=some y):(i < xs.length/\xs[i]?=some y)\/(i=xs.length/\y=x):=by
 by_cases hi:i < xs.length
 . rw[List.getElem?_append_left hi]at h
   exact .inl ⟨hi,h⟩
 . have hi':i=xs.length:=by
     have:=(List.getElem?_eq_some_iff.mp h).1
     rw[List.length_append,List.length_singleton]at this
     omega
   subst hi'
   rw[List.getElem?_append_right (Nat.le_refl _),Nat.sub_self]at h
   exact .inr ⟨rfl,(Option.some.inj h).symm⟩
theorem jg.snoc {H:Hp} {ps:List Addr} {ls:List (List Str)} {p:Addr} {l:List Str} (h:jg H ps ls) (hp:H p=some (.lst (l.map V.str))):jg H (ps++[p]) (ls++[l]):=by
 refine⟨by rw[List.length_append,List.length_append,h.1];rfl,λi p' l' e1 e2=>?_⟩
 rcases Qz e1 with ⟨i1,e1⟩ | ⟨i1,rfl⟩
 . rcases Qz e2 with ⟨_,e2⟩ | ⟨i2,_⟩
   . exact h.2 i p' l' e1 e2
   . have:=h.1;omega
 . rcases Qz e2 with ⟨i2,_⟩ | ⟨_,rfl⟩
   . have:=h.1;omega
   . exact hp
theorem jg.app {H:Hp} {ps qs:List Addr} {ls ms:List (List Str)} (h:jg H ps ls) (k:jg H qs ms):jg H (ps++qs) (ls++ms):=by
 refine⟨by rw[List.length_append,List.length_append,h.1,k.1],λi p l e1 e2=>?_⟩
 by_cases c:i < ps.length
 . rw[List.getElem?_append_left c]at e1
   rw[List.getElem?_append_left (by rw[<-h.1];exact c)]at e2
   exact h.2 i p l e1 e2
 . rw[List.getElem?_append_right (by omega)]at e1
   rw[List.getElem?_append_right (by rw[<-h.1];omega)]at e2
   rw[<-h.1]at e2
   exact k.2 _ p l e1 e2
theorem jg.fr {H H':Hp} {ps:List Addr} {ls:List (List Str)} {d:Addr} {kvs:List (qE×V)} (h:jg H ps ls) (hd:H d=some (.dK kvs)) (f:Fr H d H'):jg H' ps ls:=⟨h.1,λi p l e1 e2=>f _ _ (h.2 i p l e1 e2) (λe=>by have:=h.2 i p l e1 e2;rw[e,hd]at this;cases this)⟩
theorem qR.fr {N:List Str} {H H':Hp} {d e:Addr} {f:Str->Option Nat} (h:qR N H d f) (s:Fr H e H') (ne:d≠e):qR N H' d f:=⟨let ⟨kvs,a,b⟩:=h.at_;⟨kvs,s _ _ a ne,b⟩⟩
theorem qR.congr {N:List Str} {H:Hp} {d:Addr} {f g:Str->Option Nat} (h:qR N H d f) (e:∀z,f z=g z):qR N H d g:=⟨let ⟨kvs,a,b,c⟩:=h.at_;⟨kvs,a,λz=>by rw[b z,e z],c⟩⟩
def VG (CG:Addr) (H:Hp) (g d:Addr):Prop:=∀dx lo rd,H g=some (.ins CG dx [("order",.ref lo),("roads",.ref rd)])->rd≠d
theorem jQ.fr {CG:Addr} {H H':Hp} {a d:Addr} {rs:jt} (h:jQ CG H a rs) (hd:∃kvs:List (qE×V),H d=some (.dK kvs)) (ap:VG CG H a d) (s:Fr H d H'):jQ CG H' a rs:=by
 obtain⟨dx,lo,rd,kv,h1,h2,h3,h4⟩:=h
 obtain⟨kvs,hd⟩:=hd
 have ne:∀{b:Addr} {o:HO},H b=some o->(∀kv:List (qE×V),o≠.dK kv)->b≠d:=λhb no e=>by rw[e,hd]at hb;exact no kvs (Option.some.inj hb).symm
 refine⟨dx,lo,rd,kv,s _ _ h1 (ne h1 (λ_=>by simp)),s _ _ h2 (ne h2 (λ_=>by simp)),s _ _ h3 (ap dx lo rd h1),λr hr=>let ⟨q,a,b⟩:=h4 r hr;⟨q,a,s _ _ b (ne b (λ_=>by simp))⟩⟩
def zC (f:Str->Option Nat) (n:Nat) (ns:List Str):Str->Option Nat:=λz=>if z∈ns then some n else f z
theorem wH {R:Rs Str} {n:Nat} {ns:List Str} (h:∀z∈ns,qC R z=none) (z:Str):zC (qC R) n ns z=qC (R++[(n,ns)]) z:=by
 unfold zC
 rw[Jh]
 by_cases c:z∈ns
 . rw[if_pos c,h z c]
   show _=if z∈ns then some n else none
   rw[if_pos c]
 . rw[if_neg c]
   cases qC R z with
   | some m=>rfl
   | none=>
     show none=if z∈ns then some n else none
     rw[if_neg c]
theorem uY {R:Rs Str} {n:Nat} {ls:List (List Str)} {l:List Str}:R++(ls++[l]).map (λx=>(n,x))=(R++ls.map λx=>(n,x))++[(n,l)]:=by
 rw[List.map_append,List.append_assoc]
 rfl
def yN (CG:Addr):Sp:=λvs H Q _=>∃(g d:Addr) (rs:jt) (R:Rs Str) (n:Nat),vs=[.ref g,.ref d,.int (n:Nat)]/\jQ CG H g rs/\qB rs/\rs.length<=14/\qR (rs.map (·.1)) H d (qC R)/\VG CG H g d/\
 ∀H' l ps ls,H l=none->H' l=some (.lst (ps.map V.ref))->jg H' ps ls->(∀p∈ps,H p=none)->qR (rs.map (·.1)) H' d (qC (R++ls.map λx=>(n,x)))->Jx (Js rs) (rs.map (·.1)) n R (R++ls.map λx=>(n,x))->Fr H d H'->Q (.ref l) H'
def QX (rs:jt) (f:Str->Option Nat):Nat:=((rs.map (·.1)).filter λz=>(f z).isNone).length
theorem WG {rs:jt} {R:Rs Str} {n:Nat} {ns:List Str} (h:∀z∈ns,z∈rs.map (·.1)/\qC R z=none) (ne:ns≠[]):QX rs (qC (R++[(n,ns)])) < QX rs (qC R):=by
 unfold QX
 generalize rs.map (·.1)=N at*
 have sub:(N.filter λz=>(qC (R++[(n,ns)]) z).isNone).Sublist (N.filter λz=>(qC R z).isNone):=by
   have e:(N.filter λz=>(qC (R++[(n,ns)]) z).isNone)=(N.filter λz=>(qC R z).isNone).filter λz=>(qC (R++[(n,ns)]) z).isNone:=by
     rw[List.filter_filter]
     refine List.filter_congr λz _=>?_
     cases c:(qC (R++[(n,ns)]) z).isNone with
     | false=>simp
     | true=>
       have:=Ug (by simpa using c)
       rw[this]
       rfl
   rw[e]
   exact List.filter_sublist
 obtain⟨z0,r,e0⟩:=List.exists_cons_of_ne_nil ne
 have m0:z0∈ns:=by rw[e0];exact List.mem_cons_self
 obtain⟨hz,ez⟩:=h z0 m0
 rcases Nat.lt_or_ge (N.filter λz=>(qC (R++[(n,ns)]) z).isNone).length (N.filter λz=>(qC R z).isNone).length with c | c
 . exact c
 . have e:=sub.eq_of_length_le c
   have m:z0∈N.filter λz=>(qC R z).isNone:=List.mem_filter.mpr ⟨hz,by rw[ez];rfl⟩
   rw[<-e]at m
   have:=(List.mem_filter.mp m).2
   rw[wK ez m0]at this
   cases this
def JD (N:List Str) (H:Hp) (d:Addr):Nat:=match H d with
 | some (.dK kvs)=>(N.filter λz=>(ja kvs (Sum.inr z:qE)).isNone).length
 | _=>0
theorem qR.bare {rs:jt} {H:Hp} {d:Addr} {f:Str->Option Nat} (h:qR (rs.map (·.1)) H d f):JD (rs.map (·.1)) H d=QX rs f:=by
 obtain⟨kvs,a,b,_⟩:=h.at_
 unfold JD QX
 rw[a]
 show ((rs.map (·.1)).filter λz=>(ja kvs (Sum.inr z:qE)).isNone).length=_
 congr 1
 refine List.filter_congr λz _=>?_
 rw[b z]
 cases f z<;>rfl
section
variable {P:Program} {w:World} {K:PySem.W.Frag} {mg:Str->Option Value} {base:Heap}
abbrev RE:List Str:=["ground","numbered","number","bare"]
abbrev QM:List Str:=["ground","numbered","number"]
theorem U3:qr RE QM (qj Z1):=⟨rfl,rfl,rfl,by decide+kernel,rfl,by decide+kernel,by decide+kernel⟩
theorem xy {f fB fL fG CG:Addr} {fd fdB fdL fdG:FuncData} (F:jM K "round_of" "round_of" Z1 f fd) (B:QJ mg) (G:Qv mg) (T:QQ K mg) (M:GM K mg CG) (hB:jq K mg "numbers_behind" Gj w9 fB fdB) (hL:jq K mg "lacking" Qp ["numbers"] fL fdL) (hG:jq K mg "gets_number" Yq Yy fG fdG):qm P w K mg base qO 5 f fd QM (UQ CG):=by
 have GG:qm P w K mg base qO 4 fG fdG Yy (yO CG):=Kl hG.fn B G T M hB hL
 obtain⟨fC,fdC,C⟩:=M.cls
 obtain⟨fM,fdM,hM⟩:=M.nm
 have GM:qm P w K mg base qO 1 fM fdM ["self"] (QK CG):=QF hM.fn C G
 refine F.okJ U3 (λvs H Q E h=>?_) (λcdv A outer s H vs Q E hr h=>?_)
 . obtain⟨g,d,rs,nf,n,rfl,_⟩:=h
   rfl
 . obtain⟨g,d,rs,nf,n,rfl,gr,good,le14,hd,q⟩:=h
   have hu:=jV hr
   have r1:qW 1 _:=hr.mono (by decide)
   refine⟨_,qe (Qr (i:=3) (N':=["name","numbered"]) (ix:=[none,some 1]) U3.nd rfl (Or.inl rfl) rfl ⟨rfl,rfl,rfl,rfl,rfl⟩ (qH (Xm hM C.cl GM r1 (jv 0))) (λC s2 H2 fp pins=>
       ⟨qt (i:=0) (show (["name","numbered"]:List Str).Nodup by decide+kernel) rfl (Or.inl rfl),jy (Qa (QH hu (jv 0) (jv 1))),jv 0⟩))
     (qg (qv (j3 (N':=["name","ground","numbered","number"]) (ix:=[none,some 0,some 1,some 2]) rfl ⟨rfl,rfl,rfl,rfl,rfl⟩ (qH (jv 3)) (λC s2 H2 fp pins=>
       ⟨qt (i:=0) (show (["name","ground","numbered","number"]:List Str).Nodup by decide+kernel) rfl (Or.inl rfl),jy (jd (qJ hG GG hr (by rfl) (qb (jv 1) (qb (jv 2) (qb (jv 0) (qb (jv 3) qf)))))),jv 0⟩)))),?_⟩
   obtain⟨dx,fs,hg,l1,l2⟩:=gr.ins
   refine⟨_,rfl,g,dx,fs,rfl,hg,l1,g,rs,rfl,gr,λln hln=>⟨ln,rfl,⟨_,.of qd⟩,λW hW=>?_⟩⟩
   have s2:Same H (upd H ln (.lst ((rs.map (·.1)).map V.str))):=qk hln
   have hl2:upd H ln (.lst ((rs.map (·.1)).map V.str)) ln=some (.lst ((rs.map (·.1)).map V.str)):=qd
   generalize upd H ln (.lst ((rs.map (·.1)).map V.str))=H2 at s2 hl2 hW
   refine zg (K:=K) (a:=ln) (xs:=rs.map (·.1)) (enc:=V.str) (out:=λy=>if (nf y).isNone=true then some (V.str y) else none) (rest:=[some (.ref d)]) hW hl2 (qp (by rw[List.length_map];omega)) ?_ ?_ ?_
   . intro x hx G' s5 R k
     refine⟨_,rfl,_,rfl,d,_,rfl,((hd.mono s2).mono s5).get x,_,rfl,?_⟩
     have:=k G' λ_ _ h=>h
     cases e:nf x with
     | none=>rw[e]at this;exact this
     | some m=>rw[e]at this;exact this
   . intro x hx v ev G' s5 R k
     have:v=V.str x:=by
       split at ev
       . exact(Option.some.inj ev).symm
       . cases ev
     subst this
     exact⟨_,rfl,k G' λ_ _ h=>h⟩
   . intro G5 s5 hG5
     rw[<-YM (λy=>(nf y).isNone)]at hG5
     have s25:=s2.trans s5
     refine⟨_,rfl,W,rfl,⟨_,.of hG5⟩,λU hU=>?_⟩
     have bl:((rs.map (·.1)).filter λy=>(nf y).isNone).length<=14:=Nat.le_trans (List.length_filter_le _ _) (by rw[List.length_map];exact le14)
     refine zg (K:=K) (a:=W) (xs:=(rs.map (·.1)).filter λy=>(nf y).isNone) (enc:=V.str) (out:=λy=>if ZO rs nf y n=true then some (V.str y) else none) (rest:=[some (.ref g),some (.ref d),some (.int (n:Nat))]) hU hG5 (qp (by omega)) ?_ ?_ ?_
     . intro x hx G' s6 R k
       have sA:=s25.trans s6
       refine⟨_,rfl,_,rfl,_,rfl,_,rfl,g,d,rs,x,nf,n,rfl,gr.mono sA,good,le14,(List.mem_filter.mp hx).1,hd.mono sA,λH7 s7=>⟨_,rfl,?_⟩⟩
       have:=k H7 s7
       cases e:ZO rs nf x n with
       | true=>rw[e]at this;exact this
       | false=>rw[e]at this;exact this
     . intro x hx v ev G' s6 R k
       have:v=V.str x:=by
         split at ev
         . exact(Option.some.inj ev).symm
         . cases ev
       subst this
       exact⟨_,rfl,k G' λ_ _ h=>h⟩
     . intro G6 s6 hG6
       rw[<-YM (λy=>ZO rs nf y n)]at hG6
       exact q G6 U (s25.trans s6) (j2 s25 hU) hG6
abbrev Mb:List Str:=["ground","numbered","number","rounds","names","name"]
theorem Yf:qr Mb QM (qj W4):=⟨rfl,rfl,rfl,by decide+kernel,rfl,by decide+kernel,by decide+kernel⟩
theorem Kk {f fB fL fG fR CG:Addr} {fd fdB fdL fdG fdR:FuncData} (F:jM K "give_number" "give_number" W4 f fd) (B:QJ mg) (G:Qv mg) (T:QQ K mg) (M:GM K mg CG) (hB:jq K mg "numbers_behind" Gj w9 fB fdB) (hL:jq K mg "lacking" Qp ["numbers"] fL fdL) (hG:jq K mg "gets_number" Yq Yy fG fdG)
   (hR:jq K mg "round_of" Z1 QM fR fdR):qm P w K mg base qO 6 f fd QM (yN CG):=by
 have GR:qm P w K mg base qO 5 fR fdR QM (UQ CG):=xy hR.fn B G T M hB hL hG
 refine F.okJ Yf (λvs H Q E h=>?_) (λcdv A outer s H vs Q E hr h=>?_)
 . obtain⟨g,d,rs,R,n,rfl,_⟩:=h
   rfl
 . obtain⟨g,d,rs,R,n,rfl,gr,good,le14,hd,ap,q⟩:=h
   have hu:=jV hr
   refine⟨_,qe (qw (i:=3) Yf.nd rfl (Or.inl rfl) (jD qf))
     (qe (qw (i:=4) Yf.nd rfl (Or.inl rfl) (qJ hR GR hr (by rfl) (qb (jv 0) (qb (jv 1) (qb (jv 2) qf)))))
     (qe (ZI PassesOwn.never (qu zo (qA qP (by rfl) B.len boot_len (qb (jv 4) qf)) qi (qy _))
       (qe (jc PassesOwn.never rfl (qH (jv 4)) (qt (i:=5) Yf.nd rfl (Or.inl rfl)) (qg (je hu (jv 1) (jv 5) (jv 2) rfl)))
       (qe (jz (Vo PySem.F.plainAttrs_list PySem.F.slot_list_append PySem.F.type_list_append J7 (jv 3) (qb (jv 4) qf)))
       (qg (qw (i:=4) Yf.nd rfl (Or.inl rfl) (qJ hR GR hr (by rfl) (qb (jv 0) (qb (jv 1) (qb (jv 2) qf)))))))))
     (qg (qv (jv 3))))),?_⟩
   refine⟨by show 0<=sizeLine;decide,λlr hlr=>?_⟩
   have sr:Same H (upd H lr (.lst [])):=qk hlr
   refine⟨_,rfl,_,rfl,_,rfl,g,d,rs,qC R,n,rfl,gr.mono sr,good,le14,hd.mono sr,λH1 l1 s1 hl1 hl1'=>?_⟩
   obtain⟨kv0,hd0⟩:=hd.isd
   have nrd:lr≠d:=λe=>by rw[e,hd0]at hlr;cases hlr
   refine Zv (λσ H'=>∃(v5:Option V) (l:Addr) (ps:List Addr) (ls:List (List Str)),σ=[some (.ref g),some (.ref d),some (.int (n:Nat)),some (.ref lr),some (.ref l),v5]/\Fr H d H'/\H' lr=some (.lst (ps.map V.ref))/\jg H' ps ls/\
       qR (rs.map (·.1)) H' d (qC (R++ls.map λx=>(n,x)))/\H' l=some (.lst ((y3 rs (qC (R++ls.map λx=>(n,x))) n).map V.str))/\(∀R',Jx (Js rs) (rs.map (·.1)) n (R++ls.map λx=>(n,x)) R'->Jx (Js rs) (rs.map (·.1)) n R R')/\l≠lr/\(∀p∈ps,p≠lr)/\H l=none/\(∀p∈ps,H p=none)/\ls.length+QX rs (qC (R++ls.map λx=>(n,x)))<=14)
     (λ_ H'=>JD (rs.map (·.1)) H' d)
     ⟨none,l1,[],[],rfl,λb u hb _=>s1 _ _ (sr _ _ hb),s1 _ _ qd,.nil,?_,?_,?_,(λe=>by rw[e,qd]at hl1;cases hl1),λp h=>(nomatch h),j2 sr hl1,λp h=>(nomatch h),?_⟩ ?_ ?_
   . have:=(hd.mono sr).mono s1
     simpa using this
   . simpa using hl1'
   . intro R' h
     simpa using h
   . show 0+_<=14
     rw[Nat.zero_add]
     refine Nat.le_trans (List.length_filter_le _ _) ?_
     rw[List.length_map]
     exact le14
   . rintro σ H' ⟨v5,l,ps,ls,rfl,fr,hlr',rnds,num,hl,gv,nl,np,l0,p0,bd⟩
     have grH:jQ CG H' g rs:=gr.fr ⟨kv0,hd0⟩ ap fr
     obtain⟨kv1,hd1⟩:=num.isd
     generalize hR1:R++ls.map (λx=>(n,x))=R1 at*
     refine⟨_,rfl,l,_,rfl,.inl (.of hl),_,_,rfl,rfl,_,rfl,?_⟩
     rw[List.length_map]
     generalize hns:y3 rs (qC R1) n=ns at*
     have rnd:vQ (Js rs) (rs.map (·.1)) R1 n ns:=hns▸uZ rs R1 n
     have nsN:∀z∈ns,z∈rs.map (·.1)/\qC R1 z=none:=λz hz=>let ⟨a,b,_⟩:=(rnd.iff z).mp hz;⟨a,b⟩
     have nsnd:ns.Nodup:=by
       rw[<-hns]
       exact good.nd.sublist (List.filter_sublist.trans List.filter_sublist)
     have nslen:ns.length<=14:=by
       have:=Jp nsnd λz hz=>(nsN z hz).1
       rw[List.length_map]at this
       omega
     cases c:ns with
     | nil=>
       subst c
       refine Qb (by decide) ?_
       refine⟨_,rfl,?_⟩
       have:=gv R1 (.stop rnd)
       rw[<-hR1]at this num
       exact q H' lr ps ls hlr hlr' rnds p0 num this fr
     | cons z0 rest=>
       have ne:ns≠[]:=by rw[c];simp
       rw[<-c]
       clear c
       refine QE (decide_eq_true (by have:=List.length_pos_iff.mpr ne;show (0:Int) < (ns.length:Int);omega)) ?_
       have nld:l≠d:=λe=>by rw[e,hd1]at hl;cases hl
       refine⟨_,rfl,l,rfl,⟨_,.of hl⟩,?_⟩
       refine jm (K:=K) (a:=l) (xs:=ns.map V.str) (λi σ' G'=>∃v5,σ'=[some (.ref g),some (.ref d),some (.int (n:Nat)),some (.ref lr),some (.ref l),v5]/\qR (rs.map (·.1)) G' d (zC (qC R1) n (ns.take i))/\Fr H' d G')
         ⟨v5,rfl,num.congr λz=>by unfold zC;rw[List.take_zero,if_neg (by simp)],Fr.refl⟩ (λi σ' G' _ ⟨_,_,_,f⟩=>.of (f _ _ hl nld)) ?_ ?_
       . rintro i y σ' G' hy ⟨v5',rfl,numG,frG⟩
         obtain⟨z,ez,hz,rfl⟩:=J1 hy
         have il:=(List.getElem?_eq_some_iff.mp ez).1
         have nt:z∉ns.take i:=λm=>by
           obtain⟨j,hj⟩:=List.getElem?_of_mem m
           rw[List.getElem?_take]at hj
           split at hj
           . have h1:=(List.getElem?_eq_some_iff.mp hj)
             have h2:=(List.getElem?_eq_some_iff.mp ez)
             have:=xQ nsnd (h1.2.trans h2.2.symm)
             omega
           . cases hj
         obtain⟨H2,put,num2,o2,e2⟩:=numG.put (n:=n) (nsN z hz).1 (by unfold zC;rw[if_neg nt];exact(nsN z hz).2) (by rw[List.length_map];exact le14)
         refine⟨_,rfl,_,rfl,_,rfl,d,H2,rfl,put,_,rfl,num2.congr λy=>?_,?_⟩
         . unfold zC
           rw[List.take_add_one,ez]
           by_cases e:y=z
           . subst e;rw[if_pos rfl,if_pos (by simp)]
           . rw[if_neg e]
             by_cases m:y∈ns.take i
             . rw[if_pos m,if_pos (List.mem_append_left _ m)]
             . rw[if_neg m,if_neg (by simp [m,e])]
         . rw[e2]
           exact frG.at_d
       . rintro σ' G' ⟨v5',rfl,numG,frG⟩
         rw[List.length_map,List.take_of_length_le (Nat.le_refl _)]at numG
         have numG:=numG.congr (wH λz hz=>(nsN z hz).2)
         have lrG:=frG _ _ hlr' nrd
         have lG:=frG _ _ hl nld
         have rG:=rnds.fr hd1 frG
         have fr2:=fr.trans frG
         have blt:=WG (n:=n) nsN ne
         refine⟨_,rfl,.inl ⟨rfl,_,.of lrG⟩,_,rfl,lr,_,_,rfl,rfl,lrG,by rw[List.length_map,rnds.1];exact qp (by omega),?_⟩
         have e5:ps.map V.ref++[V.ref l]=(ps++[l]).map V.ref:=by rw[List.map_append];rfl
         rw[e5]
         have fr3:Fr H d (upd G' lr (.lst ((ps++[l]).map V.ref))):=fr2.own hlr
         have r3:jg (upd G' lr (.lst ((ps++[l]).map V.ref))) (ps++[l]) (ls++[ns]):=by
           refine jg.snoc ⟨rG.1,λi p x e1 e2=>?_⟩ (by rw[qh nl];exact lG)
           rw[qh (np p (List.mem_of_getElem? e1))]
           exact rG.2 i p x e1 e2
         have lr3:upd G' lr (.lst ((ps++[l]).map V.ref)) lr=some (.lst ((ps++[l]).map V.ref)):=qd
         have num3:qR (rs.map (·.1)) (upd G' lr (.lst ((ps++[l]).map V.ref))) d (qC (R1++[(n,ns)])):=⟨let ⟨kvs,a,b⟩:=numG.at_;⟨kvs,by rw[qh (Ne.symm nrd)];exact a,b⟩⟩
         generalize upd G' lr (.lst ((ps++[l]).map V.ref))=G3 at fr3 r3 lr3 num3 ⊢
         refine⟨_,rfl,_,rfl,_,rfl,g,d,rs,qC (R1++[(n,ns)]),n,rfl,gr.fr ⟨kv0,hd0⟩ ap fr3,good,le14,num3,λH4 l4 s4 hl4 hl4'=>?_⟩
         have eR:R++(ls++[ns]).map (λx=>(n,x))=R1++[(n,ns)]:=by rw[uY,hR1]
         refine⟨⟨v5',l4,ps++[l],ls++[ns],rfl,fr3.same s4,s4 _ _ lr3,r3.mono s4,?_,?_,?_,(λe=>by rw[e,lr3]at hl4;cases hl4),?_,?_,?_,?_⟩,?_⟩
         . rw[eR];exact num3.mono s4
         . rw[eR];exact hl4'
         . rw[eR];exact λR' h=>gv R' (.more rnd ne h)
         . intro p hp
           rcases List.mem_append.mp hp with hp | hp
           . exact np p hp
           . rw[List.mem_singleton.mp hp];exact nl
         . obtain⟨kv3,hd3⟩:=num3.isd
           exact fr3.fresh hd3 hl4
         . intro p hp
           rcases List.mem_append.mp hp with hp | hp
           . exact p0 p hp
           . rw[List.mem_singleton.mp hp];exact l0
         . rw[eR,List.length_append,List.length_singleton]
           omega
         . rw[(num3.mono s4).bare,num.bare]
           exact blt
   . rintro σ H' Q Q' h ⟨v,e,p,ys,e2,h1,i,j,e3,e4,b,e5,h2⟩
     exact⟨v,e,p,ys,e2,h1,i,j,e3,e4,b,e5,h _ _ h2⟩
end
end Rh
set_option Elab.async false
set_option linter.all false
set_option maxRecDepth 100000
set_option maxHeartbeats 4000000
namespace Rh
open PySem L2 PyProof.Rows MLab
theorem wC {G:Str->List Str} {N:List Str} {n:Nat} {R R':Rs Str} (h:Jx G N n R R'):(R'=R/\vQ G N R n [])\/R.length < R'.length:=by
 induction h with
 | stop r=>exact .inl ⟨rfl,r⟩
 | more r ne k ih=>
   right
   rcases ih with ⟨e,_⟩ | lt
   . rw[e,List.length_append];exact Nat.lt_succ_self _
   . rw[List.length_append]at lt
     exact Nat.lt_of_succ_lt lt
theorem ye {G:Str->List Str} {N:List Str} {n:Nat} {R:Rs Str} (h:Jx G N n R R):vQ G N R n []:=by
 rcases wC h with ⟨_,r⟩ | lt
 . exact r
 . exact absurd lt (Nat.lt_irrefl _)
structure vR (N:List Str) (R:Rs Str):Prop where
 sub:∀r∈R,∀z∈r.2,z∈N
 dis:R.Pairwise λr r'=>∀z∈r.2,z∉r'.2
 ne:∀r∈R,r.2≠[]
 srt:∀r∈R,r.2.Sublist N
theorem vR.nil {N:List Str}:vR N []:=⟨λ_ h=>(nomatch h),List.Pairwise.nil,λ_ h=>(nomatch h),λ_ h=>(nomatch h)⟩
theorem vR.more {G:Str->List Str} {N:List Str} {R:Rs Str} {n:Nat} {ns:List Str} (o:vR N R) (r:vQ G N R n ns) (ne:ns≠[]):vR N (R++[(n,ns)]):=by
 refine⟨λx hx z hz=>?_,List.pairwise_append.mpr ⟨o.dis,List.pairwise_singleton _ _,λa ha b hb z hz hb'=>?_⟩,λx hx=>?_,λx hx=>?_⟩
 . rcases List.mem_append.mp hx with hx | hx
   . exact o.sub x hx z hz
   . rw[List.mem_singleton.mp hx]at hz
     exact((r.iff z).mp hz).1
 . rw[List.mem_singleton.mp hb]at hb'
   exact zY.mp ((r.iff z).mp hb').2.1 a ha hz
 . rcases List.mem_append.mp hx with hx | hx
   . exact o.ne x hx
   . rw[List.mem_singleton.mp hx];exact ne
 . rcases List.mem_append.mp hx with hx | hx
   . exact o.srt x hx
   . rw[List.mem_singleton.mp hx];exact r.sub
theorem Vq {G:Str->List Str} {N:List Str} {n:Nat} {R R':Rs Str} (h:Jx G N n R R'):vR N R->vR N R':=by
 induction h with
 | stop r=>exact id
 | more r ne k ih=>exact λo=>ih (o.more r ne)
theorem K0 {G:Str->List Str} {N:List Str} {n:Nat} {R R':Rs Str} (h:All G N n R R'):vR N R->vR N R':=by
 induction h with
 | stop r=>exact id
 | more g ne k ih=>exact λo=>ih (Vq g o)
theorem yf {rs:jt} {n:Nat} {R R':Rs Str} (h:Jx (Js rs) (rs.map (·.1)) n R R'):QX rs (qC R')<=QX rs (qC R)/\(R'≠R->QX rs (qC R') < QX rs (qC R)):=by
 induction h with
 | stop r=>exact⟨Nat.le_refl _,λe=>absurd rfl e⟩
 | more r ne k ih=>
   have:=WG (λz hz=>let ⟨a,b,_⟩:=(r.iff z).mp hz;⟨a,b⟩) ne (n:=n) (rs:=rs)
   exact⟨by omega,λ_=>by omega⟩
theorem vi {N:List Str}:∀{R:Rs Str},vR N R->R.length<=N.length:=λ{R} o=>by
 have key:∀R:Rs Str,(R.Pairwise λr r'=>∀z∈r.2,z∉r'.2)->(∀r∈R,r.2≠[])->∃zs:List Str,zs.length=R.length/\zs.Nodup/\∀z∈zs,∃r∈R,z∈r.2:=by
   intro R
   induction R with
   | nil=>exact λ_ _=>⟨[],rfl,List.nodup_nil,λz h=>(nomatch h)⟩
   | cons r R ih=>
     intro p ne
     obtain⟨zs,l,nd,sub⟩:=ih (List.pairwise_cons.mp p).2 (λx hx=>ne x (List.mem_cons_of_mem _ hx))
     obtain⟨z,t,e⟩:=List.exists_cons_of_ne_nil (ne r List.mem_cons_self)
     have hz:z∈r.2:=by rw[e];exact List.mem_cons_self
     refine⟨z::zs,by simp [l],List.nodup_cons.mpr ⟨λm=>?_,nd⟩,λy hy=>?_⟩
     . obtain⟨r',hr',hz'⟩:=sub z m
       exact(List.pairwise_cons.mp p).1 r' hr' z hz hz'
     . rcases List.mem_cons.mp hy with rfl | hy
       . exact⟨r,List.mem_cons_self,hz⟩
       . obtain⟨r',hr',h⟩:=sub y hy
         exact⟨r',List.mem_cons_of_mem _ hr',h⟩
 obtain⟨zs,l,nd,sub⟩:=key R o.dis o.ne
 rw[<-l]
 exact Jp nd λz hz=>let ⟨r,hr,h⟩:=sub z hz;o.sub r hr z h
def UZ (CG:Addr):Sp:=λvs H Q _=>∃(g d:Addr) (rs:jt),vs=[.ref g,.ref d]/\jQ CG H g rs/\qB rs/\rs.length<=14/\qR (rs.map (·.1)) H d (qC [])/\VG CG H g d/\
 ∀H' l ps R,H l=none->H' l=some (.lst (ps.map V.ref))->jg H' ps (R.map (·.2))->(∀p∈ps,H p=none)->qR (rs.map (·.1)) H' d (qC R)->All (Js rs) (rs.map (·.1)) 0 [] R->Fr H d H'->Q (.ref l) H'
section
variable {P:Program} {w:World} {K:PySem.W.Frag} {mg:Str->Option Value} {base:Heap}
abbrev RH:List Str:=["ground","numbered","rounds","number","more"]
abbrev Wi:List Str:=["ground","numbered"]
theorem J3:qr RH Wi (qj Wf):=⟨rfl,rfl,rfl,by decide+kernel,rfl,by decide+kernel,by decide+kernel⟩
theorem xI {f fB fL fG fR fV CG:Addr} {fd fdB fdL fdG fdR fdV:FuncData} (F:jM K "give_numbers" "give_numbers" Wf f fd) (B:QJ mg) (G:Qv mg) (T:QQ K mg) (M:GM K mg CG) (hB:jq K mg "numbers_behind" Gj w9 fB fdB) (hL:jq K mg "lacking" Qp ["numbers"] fL fdL) (hG:jq K mg "gets_number" Yq Yy fG fdG)
   (hR:jq K mg "round_of" Z1 QM fR fdR) (hV:jq K mg "give_number" W4 QM fV fdV):qm P w K mg base qO 7 f fd Wi (UZ CG):=by
 have GV:qm P w K mg base qO 6 fV fdV QM (yN CG):=Kk hV.fn B G T M hB hL hG hR
 refine F.okJ J3 (λvs H Q E h=>?_) (λcdv A outer s H vs Q E hr h=>?_)
 . obtain⟨g,d,rs,rfl,_⟩:=h
   rfl
 . obtain⟨g,d,rs,rfl,gr,good,le14,hd,ap,q⟩:=h
   have hu:=jV hr
   refine⟨_,qe (qw (i:=2) J3.nd rfl (Or.inl rfl) (jD qf))
     (qe (qw (i:=3) J3.nd rfl (Or.inl rfl) qi)
     (qe (qw (i:=4) J3.nd rfl (Or.inl rfl) (qJ hV GV hr (by rfl) (qb (jv 0) (qb (jv 1) (qb (jv 3) qf)))))
     (qe (ZI PassesOwn.never (qu zo (qA qP (by rfl) B.len boot_len (qb (jv 4) qf)) qi (qy _))
       (qe (jz (Vo PySem.F.plainAttrs_list PySem.F.slot_list_extend PySem.F.type_list_extend kQ (jv 2) (qb (jv 4) qf)))
       (qe (x6 (i:=3) J3.nd rfl (Or.inl rfl) qi wv)
       (qg (qw (i:=4) J3.nd rfl (Or.inl rfl) (qJ hV GV hr (by rfl) (qb (jv 0) (qb (jv 1) (qb (jv 3) qf)))))))))
     (qg (qv (jv 2)))))),?_⟩
   refine⟨by show 0<=sizeLine;decide,λlr hlr=>?_⟩
   have sr:Same H (upd H lr (.lst [])):=qk hlr
   obtain⟨kv0,hd0⟩:=hd.isd
   have nrd:lr≠d:=λe=>by rw[e,hd0]at hlr;cases hlr
   have apm:∀{H':Hp},Fr H d H'->VG CG H' g d:=λfr dx lo rd h=>by
     obtain⟨dx',lo',rd',kvs',h1,_⟩:=gr
     have:=fr _ _ h1 (λe=>by rw[e,hd0]at h1;cases h1)
     rw[h]at this
     cases this
     exact ap _ _ _ h1
   have fr0:Fr H d (upd H lr (.lst [])):=Fr.refl.own hlr
   refine⟨_,rfl,_,rfl,_,rfl,g,d,rs,[],0,rfl,gr.mono sr,good,le14,hd.mono sr,apm fr0,λH1 l1 ps1 ls1 hl1 hl1' rn1 pn1 num1 gv1 fr1=>?_⟩
   refine Zv (λσ H'=>∃(l:Addr) (n:Nat) (ps ps1:List Addr) (R:Rs Str) (ls:List (List Str)),σ=[some (.ref g),some (.ref d),some (.ref lr),some (.int (n:Nat)),some (.ref l)]/\Fr H d H'/\H' lr=some (.lst (ps.map V.ref))/\jg H' ps (R.map (·.2))/\H' l=some (.lst (ps1.map V.ref))/\jg H' ps1 ls/\
       qR (rs.map (·.1)) H' d (qC (R++ls.map λx=>(n,x)))/\Jx (Js rs) (rs.map (·.1)) n R (R++ls.map λx=>(n,x))/\(∀R',All (Js rs) (rs.map (·.1)) n R R'->All (Js rs) (rs.map (·.1)) 0 [] R')/\l≠lr/\(∀p∈ps,p≠lr/\H p=none)/\(∀p∈ps1,p≠lr/\H p=none)/\vR (rs.map (·.1)) R)
     (λσ H'=>JD (rs.map (·.1)) H' d*2+(match σ with | [_,_,_,_,some (.ref l)]=>(match H' l with | some (.lst (_::_))=>1 | _=>0) | _=>0))
     ⟨l1,0,[],ps1,[],ls1,rfl,fr0.trans fr1,fr1 _ _ qd nrd,.nil,hl1',rn1,num1,gv1,λR' h=>h,(λe=>by rw[e,qd]at hl1;cases hl1),λp h=>(nomatch h),?_,.nil⟩ ?_ ?_
   . intro p hp
     have h1:=pn1 p hp
     have h2:p≠lr:=λe=>by rw[e,qd]at h1;cases h1
     exact⟨h2,by rw[qh h2]at h1;exact h1⟩
   . rintro σ H' ⟨l,n,ps,ps1,R,ls,rfl,fr,hlr',rnds,hl,rn,num,gv,al,nl,np,np1,od⟩
     obtain⟨kv1,hd1⟩:=num.isd
     have od':=Vq gv od
     have ol:=vi od'
     rw[List.length_append,List.length_map,List.length_map]at ol
     refine⟨_,rfl,l,_,rfl,.inl (.of hl),_,_,rfl,rfl,_,rfl,?_⟩
     rw[List.length_map]
     cases c:ls with
     | nil=>
       subst c
       have e0:ps1=[]:=List.eq_nil_of_length_eq_zero rn.1
       subst e0
       rw[List.map_nil,List.append_nil]at gv num
       refine Qb (by decide) ⟨_,rfl,?_⟩
       exact q H' lr ps R hlr hlr' rnds (λp hp=>(np p hp).2) num (al R (.stop (ye gv))) fr
     | cons x0 rest=>
       have ne:ls≠[]:=by rw[c];simp
       clear c
       have lp:ps1.length=ls.length:=rn.1
       have pos:=List.length_pos_iff.mpr ne
       refine QE (decide_eq_true (by show (0:Int) < (ps1.length:Int);omega)) ?_
       refine⟨_,rfl,.inl ⟨rfl,_,.of hlr'⟩,_,rfl,lr,l,_,_,rfl,rfl,hlr',hl,?_,?_⟩
       . rw[List.length_map,List.length_map,rnds.1,List.length_map,lp]
         exact Nat.le_of_lt (qp (by omega))
       . have e5:ps.map V.ref++ps1.map V.ref=(ps++ps1).map V.ref:=by rw[List.map_append]
         rw[e5]
         have fr3:Fr H d (upd H' lr (.lst ((ps++ps1).map V.ref))):=fr.own hlr
         have lr3:upd H' lr (.lst ((ps++ps1).map V.ref)) lr=some (.lst ((ps++ps1).map V.ref)):=qd
         have r3:jg (upd H' lr (.lst ((ps++ps1).map V.ref))) (ps++ps1) ((R++ls.map λx=>(n,x)).map (·.2)):=by
           have ee:(R++ls.map λx=>(n,x)).map (·.2)=R.map (·.2)++ls:=by
             rw[List.map_append,List.map_map]
             congr 1
             exact List.map_id ls
           rw[ee]
           refine jg.app ⟨rnds.1,λi p x e1 e2=>?_⟩ ⟨rn.1,λi p x e1 e2=>?_⟩
           . rw[qh (np p (List.mem_of_getElem? e1)).1]
             exact rnds.2 i p x e1 e2
           . rw[qh (np1 p (List.mem_of_getElem? e1)).1]
             exact rn.2 i p x e1 e2
         have num3:qR (rs.map (·.1)) (upd H' lr (.lst ((ps++ps1).map V.ref))) d (qC (R++ls.map λx=>(n,x))):=⟨let ⟨kvs,a,b⟩:=num.at_;⟨kvs,by rw[qh (Ne.symm nrd)];exact a,b⟩⟩
         have neR:R++ls.map (λx=>(n,x))≠R:=λe=>by
           have:=congrArg List.length e
           rw[List.length_append,List.length_map]at this
           omega
         generalize R++ls.map (λx=>(n,x))=R1 at*
         generalize upd H' lr (.lst ((ps++ps1).map V.ref))=G3 at fr3 r3 lr3 num3 ⊢
         obtain⟨kv3,hd3⟩:=num3.isd
         refine⟨_,rfl,_,_,rfl,rfl,?_⟩
         refine⟨_,rfl,_,rfl,_,rfl,g,d,rs,R1,n+1,rfl,gr.fr ⟨kv0,hd0⟩ ap fr3,good,le14,num3,apm fr3,λH4 l4 ps4 ls4 hl4 hl4' rn4 pn4 num4 gv4 fr4=>?_⟩
         refine⟨⟨l4,n+1,ps++ps1,ps4,R1,ls4,rfl,fr3.trans fr4,fr4 _ _ lr3 nrd,r3.fr hd3 fr4,hl4',rn4,num4,gv4,λR' h=>al R' (.more gv neR h),(λe=>by rw[e,lr3]at hl4;cases hl4),?_,?_,od'⟩,?_⟩
         . intro p hp
           rcases List.mem_append.mp hp with hp | hp
           . exact np p hp
           . exact np1 p hp
         . intro p hp
           have h1:=pn4 p hp
           refine⟨(λe=>by rw[e,lr3]at h1;cases h1),?_⟩
           cases h2:H p with
           | none=>rfl
           | some u=>
             by_cases c:p=d
             . rw[c,hd3]at h1;cases h1
             . rw[fr3 _ _ h2 c]at h1;cases h1
         . show JD (rs.map (·.1)) H4 d*2+(match H4 l4 with | some (.lst (_::_))=>1 | _=>0) < JD (rs.map (·.1)) H' d*2+(match H' l with | some (.lst (_::_))=>1 | _=>0)
           have gb:=yf gv4
           rw[num4.bare,num.bare,hl4',hl]
           obtain⟨p1,t1,e1⟩:=List.exists_cons_of_length_pos (by omega:0 < ps1.length)
           rw[e1]
           show _ < QX rs (qC R1)*2+1
           cases ls4 with
           | nil=>
             have e0:ps4=[]:=List.eq_nil_of_length_eq_zero rn4.1
             rw[e0]
             show _+0 < _
             have:=gb.1
             omega
           | cons x4 t4=>
             have:=gb.2 λe=>by
               have:=congrArg List.length e
               rw[List.length_append,List.length_map]at this
               simp at this
             have le1:(match (some (HO.lst (ps4.map V.ref)):Option HO) with | some (.lst (_::_))=>1 | _=>0)<=1:=by split<;>omega
             omega
   . rintro σ H' Q Q' h ⟨v,e,p,ys,e2,h1,i,j,e3,e4,b,e5,h2⟩
     exact⟨v,e,p,ys,e2,h1,i,j,e3,e4,b,e5,h _ _ h2⟩
end
end Rh
set_option Elab.async false
set_option linter.all false
set_option maxRecDepth 100000
set_option maxHeartbeats 4000000
namespace Rh
open PySem L2 PyProof.Rows MLab
def YW (R:Rs Str) (i:Nat):Str->Option Nat:=λz=>(qC (R.take i) z).map λ_=>J4 R z
theorem VU {N:List Str} {R:Rs Str} (o:vR N R) {i:Nat} {r:Nat×List Str} {z:Str} (hr:R[i]?=some r) (hz:z∈r.2):J4 R z=i:=by
 obtain⟨hi,er⟩:=List.getElem?_eq_some_iff.mp hr
 unfold J4
 rw[List.findIdx_eq hi]
 refine⟨by rw[er];exact decide_eq_true hz,λj hj=>decide_eq_false λm=>?_⟩
 have:=List.pairwise_iff_getElem.mp o.dis j i (by omega) hi hj z m
 rw[er]at this
 exact this hz
theorem WW {N:List Str} {R:Rs Str} (o:vR N R) {i:Nat} {r:Nat×List Str} {z:Str} (hr:R[i]?=some r) (hz:z∈r.2):YW R i z=none:=by
 unfold YW
 have:qC (R.take i) z=none:=zY.mpr λx hx m=>by
   obtain⟨j,hj⟩:=List.getElem?_of_mem hx
   rw[List.getElem?_take]at hj
   split at hj
   . have h1:=VU o hj m
     have h2:=VU o hr hz
     omega
   . cases hj
 rw[this]
 rfl
theorem kh {N:List Str} {R:Rs Str} (o:vR N R) {i:Nat} {r:Nat×List Str} (hr:R[i]?=some r) (z:Str):zC (YW R i) i r.2 z=YW R (i+1) z:=by
 unfold zC
 by_cases c:z∈r.2
 . rw[if_pos c]
   have n:=WW o hr c
   unfold YW at n ⊢
   have n':qC (R.take i) z=none:=by
     cases e:qC (R.take i) z with
     | none=>rfl
     | some m=>rw[e]at n;cases n
   rw[List.take_add_one,hr]
   show _=(qC (R.take i++[(r.1,r.2)]) z).map _
   rw[wK n' c,VU o hr c]
   rfl
 . rw[if_neg c]
   unfold YW
   rw[List.take_add_one,hr]
   show _=(qC (R.take i++[(r.1,r.2)]) z).map _
   rw[Jh]
   cases qC (R.take i) z with
   | some m=>rfl
   | none=>
     show _=Option.map _ (if z∈r.2 then some r.1 else none)
     rw[if_neg c]
theorem yH (R:Rs Str) (z:Str):YW R R.length z=(qC R z).map λ_=>J4 R z:=by
 unfold YW
 rw[List.take_of_length_le (Nat.le_refl _)]
def ZH (rs:jt) (R:Rs Str) (z:Str):List V:=match qC R z with
 | some n=>[.str "number",.int (n:Nat),.int (J4 R z:Nat)]
 | none=>[.str "endless",.int (Rb.setN (ZU rs (qC R) z):Nat)]
structure Zs (H:Hp) (D:Addr) (rs:jt) (R:Rs Str):Prop where
 at_:∃kvs:List (qE×V),H D=some (.dK kvs)/\kvs.map (·.1)=(rs.map (·.1)).map Sum.inr/\∀r∈rs,∃t,ja kvs (Sum.inr r.1:qE)=some (.ref t)/\H t=some (.tup (ZH rs R r.1))
theorem Zs.mono {H H':Hp} {D:Addr} {rs:jt} {R:Rs Str} (h:Zs H D rs R) (s:Same H H'):Zs H' D rs R:=⟨let ⟨kvs,a,b,c⟩:=h.at_;⟨kvs,s _ _ a,b,λr hr=>let ⟨t,u,v⟩:=c r hr;⟨t,u,s _ _ v⟩⟩⟩
theorem UM:∀(n:Nat) (L:List Nat),(∀m,m<=n->m∈L)->n*(n+1)<=2*L.sum
 | 0,_,_=>by simp
 | n+1,L,h=>by
   have hm:=h (n+1) (Nat.le_refl _)
   have ih:=UM n (L.erase (n+1)) λm hm'=>(List.mem_erase_of_ne (by omega)).mpr (h m (by omega))
   have es:L.sum=(n+1)+(L.erase (n+1)).sum:=by
     have:=(List.perm_cons_erase hm).sum_nat
     rw[this,List.sum_cons]
   rw[es]
   have:(n+1)*(n+1+1)=n*(n+1)+2*(n+1):=by
     rw[Nat.mul_comm,<-Nat.add_mul]
   omega
theorem WV {α:Type} {f g:α->Nat}:∀{l:List α},(∀x∈l,f x<=g x)->(l.map f).sum<=(l.map g).sum
 | [],_=>Nat.le_refl _
 | a::l,h=>by
   rw[List.map_cons,List.map_cons,List.sum_cons,List.sum_cons]
   have:=h a List.mem_cons_self
   have:=WV (l:=l) λx hx=>h x (List.mem_cons_of_mem _ hx)
   omega
theorem R5 {rs:jt} (hn:(rs.map (·.1)).Nodup) (z:Str):(Js rs z).Nodup:=by
 unfold Js
 split
 . exact hn.sublist List.filter_sublist
 . exact List.nodup_nil
theorem Z3 {rs:jt} (good:qB rs) {num:Str->Option Nat} {stp:Str->Nat} (L:ZV (Js rs) (·∈rs.map (·.1)) num stp) {x:Str} {n:Nat} (hx:x∈rs.map (·.1)) (e:num x=some n):n<=8:=by
 have h1:∀m,m<=n->m∈rs.map λr=>(num r.1).getD 0:=λm hm=>by
   rcases Nat.lt_or_ge m n with c | c
   . obtain⟨y,hy,ey,_⟩:=L.n1 hx e c
     obtain⟨r,hr,rfl⟩:=List.mem_map.mp (L.cl hx hy)
     exact List.mem_map.mpr ⟨r,hr,by rw[ey];rfl⟩
   . have:m=n:=by omega
     subst this
     obtain⟨r,hr,rfl⟩:=List.mem_map.mp hx
     exact List.mem_map.mpr ⟨r,hr,by rw[e];rfl⟩
 have h2:=UM n _ h1
 have h3:(rs.map λr=>(num r.1).getD 0).sum<=(rs.map λr=>r.2.length).sum:=WV λr hr=>by
   cases c:num r.1 with
   | none=>exact Nat.zero_le _
   | some m=>
     show m<=_
     have hr':r.1∈rs.map (·.1):=List.mem_map.mpr ⟨r,hr,rfl⟩
     have:(List.range m).length<=((Js rs r.1).filterMap num).length:=Jp List.nodup_range λj hj=>by
       obtain⟨y,hy,ey,_⟩:=L.n1 hr' c (List.mem_range.mp hj)
       exact List.mem_filterMap.mpr ⟨y,hy,ey⟩
     rw[List.length_range]at this
     have h4:=List.length_filterMap_le num (Js rs r.1)
     have h5:(Js rs r.1).length<=r.2.length:=Jp (R5 good.nd _) λy hy=>(vz good hr).mp hy
     omega
 have h4:=good.few
 rcases Nat.lt_or_ge 8 n with c | c
 . have:9*10<=n*(n+1):=Nat.mul_le_mul c (by omega)
   omega
 . exact c
def Yb (CG:Addr):Sp:=λvs H Q _=>∃(g:Addr) (rs:jt),vs=[.ref g]/\jQ CG H g rs/\qB rs/\rs.length<=14/\
 ∀H' D R,Same H H'->H D=none->Zs H' D rs R->All (Js rs) (rs.map (·.1)) 0 [] R->Q (.ref D) H'
section
variable {P:Program} {w:World} {K:PySem.W.Frag} {mg:Str->Option Value} {base:Heap}
abbrev nLb:List Str:=["ground","numbered","steps","step","names","name","labels"]
theorem W0:qr nLb ["ground"] (qj zO):=⟨rfl,rfl,rfl,by decide+kernel,rfl,by decide+kernel,by decide+kernel⟩
structure Ux (K:PySem.W.Frag) (mg:Str->Option Value):Prop where
 lack:∃f fd,jq K mg "lacking" Qp ["numbers"] f fd
 seto:∃f fd,jq K mg "set_of" Z0 ["numbers"] f fd
 nb:∃f fd,jq K mg "numbers_behind" Gj w9 f fd
 gets:∃f fd,jq K mg "gets_number" Yq Yy f fd
 round:∃f fd,jq K mg "round_of" Z1 QM f fd
 give:∃f fd,jq K mg "give_number" W4 QM f fd
 gives:∃f fd,jq K mg "give_numbers" Wf Wi f fd
 labels:∃f fd,jq K mg "labels_of" zO ["ground"] f fd
theorem Xg {f CG:Addr} {fd:FuncData} (F:jM K "labels_of" "labels_of" zO f fd) (B:QJ mg) (G:Qv mg) (T:QQ K mg) (M:GM K mg CG) (Y:Ux K mg):qm P w K mg base qO 8 f fd ["ground"] (Yb CG):=by
 obtain⟨fL,fdL,hL⟩:=Y.lack
 obtain⟨fS,fdS,hS⟩:=Y.seto
 obtain⟨fB,fdB,hB⟩:=Y.nb
 obtain⟨fG,fdG,hG⟩:=Y.gets
 obtain⟨fR,fdR,hR⟩:=Y.round
 obtain⟨fV,fdV,hV⟩:=Y.give
 obtain⟨fW,fdW,hW⟩:=Y.gives
 have GW:qm P w K mg base qO 7 fW fdW Wi (UZ CG):=xI hW.fn B G T M hB hL hG hR hV
 have GB:qm P w K mg base qO 3 fB fdB w9 (uA CG):=Go hB.fn B G T M
 have GS:qm P w K mg base qO 1 fS fdS ["numbers"] (XQ K):=Vd hS.fn
 obtain⟨fC,fdC,C⟩:=M.cls
 obtain⟨fM,fdM,hM⟩:=M.nm
 have GM:qm P w K mg base qO 1 fM fdM ["self"] (QK CG):=QF hM.fn C G
 refine F.okJ W0 (λvs H Q E h=>?_) (λcdv A outer s H vs Q E hr h=>?_)
 . obtain⟨g,rs,rfl,_⟩:=h
   rfl
 . obtain⟨g,rs,rfl,gr,good,le14,q⟩:=h
   have hu:=jV hr
   have r1:qW 1 _:=hr.mono (by decide)
   have r3:qW 3 _:=hr.mono (by decide)
   refine⟨_,qe (qw (i:=1) W0.nd rfl (Or.inl rfl) jU)
     (qe (qw (i:=2) W0.nd rfl (Or.inl rfl) jU)
     (qe (jc PassesOwn.never rfl (vt (by rfl) T.enu (qb (qJ hW GW hr (by rfl) (qb (jv 0) (qb (jv 1) qf))) qf)) (YI rfl (jT (qt (i:=3) W0.nd rfl (Or.inl rfl)) (jT (qt (i:=4) W0.nd rfl (Or.inl rfl)) ZL)))
       (qg (jc PassesOwn.never rfl (qH (jv 4)) (qt (i:=5) W0.nd rfl (Or.inl rfl)) (qg (je hu (jv 2) (jv 5) (jv 3) rfl)))))
     (qe (qw (i:=6) W0.nd rfl (Or.inl rfl) jU)
     (qe (jc PassesOwn.never rfl (qH (Xm hM C.cl GM r1 (jv 0))) (qt (i:=5) W0.nd rfl (Or.inl rfl))
       (qg (qM (Qa (JV hu (jv 5) (jv 1)))
         (qg (je hu (jv 6) (jv 5) (jC (qb qI (qb (qL hu (jv 1) (jv 5) (λ_ _=>rfl)) (qb (qL hu (jv 2) (jv 5) (λ_ _=>rfl)) qf)))) rfl))
         (qg (je hu (jv 6) (jv 5) (jC (qb qI (qb (qJ hS GS r1 (by rfl) (qb (qJ hB GB r3 (by rfl) (qb (jv 0) (qb (jv 1) (qb (jv 5) qf)))) qf)) qf))) rfl)))))
     (qg (qv (jv 6))))))),?_⟩
   intro d hd st hst
   have s1:Same H (upd H d (.dK [])):=qk hd
   have s2:Same H (upd (upd H d (.dK [])) st (.dK [])):=s1.trans (qk hst)
   have hd2:upd (upd H d (.dK [])) st (.dK []) d=some (.dK []):=ql qd hst
   have hst2:upd (upd H d (.dK [])) st (.dK []) st=some (.dK []):=qd
   have nds:d≠st:=λe=>by rw[<-e,qd]at hst;cases hst
   have hs0:H st=none:=j2 s1 hst
   generalize upd (upd H d (.dK [])) st (.dK [])=H2 at s2 hd2 hst2
   have num0:∀{a:Addr},H2 a=some (.dK [])->qR (rs.map (·.1)) H2 a (qC []):=λh=>⟨[],h,λz=>rfl,List.nodup_nil,λk h=>(nomatch h)⟩
   have ap:∀{H':Hp} {a:Addr},Same H H'->H a=none->VG CG H' g a:=λsH ha dx lo rd h=>by
     obtain⟨dx',lo',rd',kvs',h1,_,h3,_⟩:=gr
     have:=sH _ _ h1
     rw[h]at this
     cases this
     exact λe=>by rw[e,ha]at h3;cases h3
   refine⟨_,rfl,_,rfl,g,d,rs,rfl,gr.mono s2,good,le14,num0 hd2,ap s2 hd,λH3 l3 ps R hl3 hl3' rnds _ num all fr3=>?_⟩
   have od:=K0 all .nil
   have oL:=vi od
   rw[List.length_map]at oL
   have s3:Same H H3:=λb u h=>fr3 b u (s2 _ _ h) (qo h hd)
   have st3:H3 st=some (.dK []):=fr3 _ _ hst2 (Ne.symm nds)
   obtain⟨kvd,hd3⟩:=num.isd
   have nl3:l3≠st:=λe=>by rw[e,hst2]at hl3;cases hl3
   have L:=xY (JY good.nd) all
   refine⟨l3,rfl,⟨_,.of hl3'⟩,?_⟩
   refine Vt (K:=K) (a:=l3) (xs:=ps.map V.ref) (λi σ' G'=>∃v3 v4 v5,σ'=[some (.ref g),some (.ref d),some (.ref st),v3,v4,v5,none]/\qR (rs.map (·.1)) G' st (YW R i)/\Fr H3 st G')
     ⟨none,none,none,rfl,⟨[],st3,λz=>rfl,List.nodup_nil,λk h=>(nomatch h)⟩,Fr.refl⟩ (λi σ' G' _ ⟨_,_,_,_,_,f⟩=>.of (f _ _ hl3' nl3)) ?_ ?_
   . rintro i x σ' G' p hx hp ⟨v3,v4,v5,rfl,YY,frS⟩
     rw[List.getElem?_map]at hx
     cases ep:ps[i]? with
     | none=>rw[ep]at hx;cases hx
     | some pi=>
       rw[ep]at hx
       obtain rfl:=(Option.some.inj hx).symm
       have li:i < R.length:=by
         have:=(List.getElem?_eq_some_iff.mp ep).1
         have:=rnds.1
         rw[List.length_map]at this
         omega
       obtain⟨r,er⟩:∃r,R[i]?=some r:=⟨_,List.getElem?_eq_getElem li⟩
       have hpi:=rnds.2 i pi r.2 ep (by rw[List.getElem?_map,er];rfl)
       have npi:pi≠st:=λe=>by rw[e,st3]at hpi;cases hpi
       have sp:Same G' (upd G' p (.tup [.int (i:Nat),V.ref pi])):=qk hp
       have frp:Fr H3 st (upd G' p (.tup [.int (i:Nat),V.ref pi])):=frS.same sp
       have rN:∀z∈r.2,z∈rs.map (·.1):=od.sub r (List.mem_of_getElem? er)
       refine⟨p,_,rfl,.of qd,rfl,_,_,rfl,_,_,rfl,rfl,?_⟩
       have hpp:∀{G2:Hp},Fr H3 st G2->G2 pi=some (.lst (r.2.map V.str)):=λf=>f _ _ hpi npi
       have num1:=YY.mono sp
       generalize upd G' p (.tup [.int (i:Nat),V.ref pi])=G1 at sp frp num1
       refine⟨_,rfl,pi,rfl,⟨_,.of (hpp frp)⟩,?_⟩
       have rnd:r.2.Nodup:=good.nd.sublist (od.srt r (List.mem_of_getElem? er))
       refine jm (K:=K) (a:=pi) (xs:=r.2.map V.str) (λj σ'' G2=>∃v5,σ''=[some (.ref g),some (.ref d),some (.ref st),some (.int (i:Nat)),some (.ref pi),v5,none]/\qR (rs.map (·.1)) G2 st (zC (YW R i) i (r.2.take j))/\Fr H3 st G2)
         ⟨v5,rfl,num1.congr λz=>by unfold zC;rw[List.take_zero,if_neg (by simp)],frp⟩ (λj σ'' G2 _ ⟨_,_,_,f⟩=>.of (hpp f)) ?_ ?_
       . rintro j y σ'' G2 hy ⟨v5',rfl,numG,frG⟩
         obtain⟨z,ez,hz,rfl⟩:=J1 hy
         by_cases nt:z∈r.2.take j
         . exfalso
           obtain⟨j',hj⟩:=List.getElem?_of_mem nt
           rw[List.getElem?_take]at hj
           split at hj
           . have h1:=(List.getElem?_eq_some_iff.mp hj)
             have h2:=(List.getElem?_eq_some_iff.mp ez)
             have:=xQ rnd (h1.2.trans h2.2.symm)
             omega
           . cases hj
         . obtain⟨H4,put,num4,o4,e4⟩:=numG.put (n:=i) (rN z hz) (by unfold zC;rw[if_neg nt];exact WW od er hz) (by rw[List.length_map];exact le14)
           refine⟨_,rfl,_,rfl,_,rfl,st,H4,rfl,put,_,rfl,num4.congr λy=>?_,?_⟩
           . unfold zC
             rw[List.take_add_one,ez]
             by_cases e:y=z
             . subst e;rw[if_pos rfl,if_pos (by simp)]
             . rw[if_neg e]
               by_cases m:y∈r.2.take j
               . rw[if_pos m,if_pos (List.mem_append_left _ m)]
               . rw[if_neg m,if_neg (by simp [m,e])]
           . rw[e4]
             exact frG.at_d
       . rintro σ'' G2 ⟨v5',rfl,numG,frG⟩
         rw[List.length_map,List.take_of_length_le (Nat.le_refl _)]at numG
         exact⟨_,_,_,rfl,numG.congr (kh od er),frG⟩
   . rintro σ' G' ⟨v3,v4,v5,rfl,YY,frS⟩
     rw[List.length_map,rnds.1,List.length_map]at YY
     have YY:=YY.congr (yH R)
     have sG:Same H G':=λb u h=>frS _ _ (s3 _ _ h) (qo h hs0)
     have numD:qR (rs.map (·.1)) G' d (qC R):=num.fr frS nds
     intro D hD
     have sD:Same G' (upd G' D (.dK [])):=qk hD
     have hD0:H D=none:=j2 sG hD
     have hDD:upd G' D (.dK []) D=some (.dK []):=qd
     generalize upd G' D (.dK [])=G1 at sD hDD
     obtain⟨dx,fs,hg,l1,l2⟩:=((gr.mono sG).mono sD).ins
     refine⟨_,rfl,g,dx,fs,rfl,hg,l1,g,rs,rfl,(gr.mono sG).mono sD,λln hln=>⟨ln,rfl,⟨_,.of qd⟩,?_⟩⟩
     have sL:Same G1 (upd G1 ln (.lst ((rs.map (·.1)).map V.str))):=qk hln
     have hL2:upd G1 ln (.lst ((rs.map (·.1)).map V.str)) ln=some (.lst ((rs.map (·.1)).map V.str)):=qd
     have nDl:ln≠D:=λe=>by rw[e,hDD]at hln;cases hln
     generalize upd G1 ln (.lst ((rs.map (·.1)).map V.str))=G2 at sL hL2
     have sG2:Same G' G2:=sD.trans sL
     refine jm (K:=K) (a:=ln) (xs:=(rs.map (·.1)).map V.str) (λi σ' G3=>∃v5 kvs,σ'=[some (.ref g),some (.ref d),some (.ref st),v3,v4,v5,some (.ref D)]/\Fr G2 D G3/\G3 D=some (.dK kvs)/\kvs.map (·.1)=((rs.map (·.1)).take i).map Sum.inr/\
         ∀r∈rs.take i,∃t,ja kvs (Sum.inr r.1:qE)=some (.ref t)/\G3 t=some (.tup (ZH rs R r.1)))
       ⟨v5,[],rfl,Fr.refl,sL _ _ hDD,rfl,λr h=>(nomatch h)⟩ (λi σ' G3 _ ⟨_,_,_,f,_⟩=>.of (f _ _ hL2 nDl)) ?_ ?_
     . rintro i y σ' G3 hy ⟨v5',kvs,rfl,fr,hDk,ek,hv⟩
       obtain⟨r,er,hr',rfl⟩:=xR hy
       have hi:=(List.getElem?_eq_some_iff.mp er).1
       have s23:Same G' G3:=λb u h=>fr _ _ (sG2 _ _ h) (qo h hD)
       have sA:=sG.trans s23
       have nm:=numD.mono s23
       have ns:=YY.mono s23
       have lk:kvs.length=i:=by
         have:=congrArg List.length ek
         rw[List.length_map,List.length_map,List.length_take,List.length_map]at this
         omega
       have eN:(rs.map (·.1))[i]?=some r.1:=by rw[List.getElem?_map,er];rfl
       have new:ja kvs (Sum.inr r.1:qE)=none:=Q8 (by rw[ek];exact QG good.nd eN)
       have fin:∀(G4:Hp) (t:Addr),Fr G2 D G4->G4 D=some (.dK kvs)->Same G3 G4->G4 t=some (.tup (ZH rs R r.1))->∃H5,QR G4 D (.str r.1) (.ref t) H5/\
           ∃v5 kvs,[some (V.ref g),some (.ref d),some (.ref st),v3,v4,some (.str r.1),some (.ref D)]=[some (.ref g),some (.ref d),some (.ref st),v3,v4,v5,some (.ref D)]/\Fr G2 D H5/\H5 D=some (.dK kvs)/\kvs.map (·.1)=((rs.map (·.1)).take (i+1)).map Sum.inr/\
            ∀r∈rs.take (i+1),∃t,ja kvs (Sum.inr r.1:qE)=some (.ref t)/\H5 t=some (.tup (ZH rs R r.1)):=λG4 t f4 h4 s4 ht=>by
         refine⟨_,QR.k (k:=(Sum.inr r.1:qE)) h4 (qp (by omega)),some (.str r.1),jA kvs (Sum.inr r.1) (.ref t),rfl,f4.at_d,qd,?_,λr2 hr2=>?_⟩
         . rw[Je _ new,List.map_append,ek,List.take_add_one,eN,List.map_append]
           rfl
         . have tD:∀{b:Addr} {xs:List V},G4 b=some (.tup xs)->b≠D:=λhb e=>by rw[e,h4]at hb;cases hb
           rw[List.take_add_one,er]at hr2
           rcases List.mem_append.mp hr2 with h | h
           . obtain⟨t2,a,b⟩:=hv r2 h
             have ne:r2.1≠r.1:=λe=>by rw[e,new]at a;cases a
             refine⟨t2,?_,?_⟩
             . rw[jS,if_neg (λq=>ne (Sum.inr.inj q))];exact a
             . rw[qh (tD (s4 _ _ b))];exact s4 _ _ b
           . have:r2=r:=by simpa using h
             subst this
             refine⟨t,?_,?_⟩
             . rw[jS,if_pos rfl]
             . rw[qh (tD ht)];exact ht
       refine⟨_,rfl,_,rfl,d,_,rfl,nm.get r.1,_,rfl,?_⟩
       cases c:qC R r.1 with
       | some n=>
         have g1:=nm.get r.1
         have g2:=ns.get r.1
         rw[c]at g1 g2
         refine jP ⟨_,rfl,_,rfl,d,_,rfl,g1,_,rfl,_,rfl,st,_,rfl,g2,by show 3<=sizeLine;decide,λt ht=>?_⟩
         have el:ZH rs R r.1=[.str "number",.int (n:Nat),.int (J4 R r.1:Nat)]:=by unfold ZH;rw[c]
         obtain⟨H5,put,k⟩:=fin (upd G3 t (.tup [.str "number",.int (n:Nat),.int (J4 R r.1:Nat)])) t (fr.same (qk ht)) (ql hDk ht) (qk ht) (by rw[el];exact qd)
         exact⟨_,rfl,_,rfl,D,H5,rfl,put,k⟩
       | none=>
         have gN:=L
         refine jf ⟨_,rfl,_,rfl,_,rfl,g,d,rs,r.1,qC R,rfl,gr.mono sA,good,le14,List.mem_map.mpr ⟨r,hr',rfl⟩,nm,λH4 l4 s4 hl4 hl4'=>?_⟩
         refine⟨l4,_,rfl,.of hl4',λx hx=>?_,by show 2<=sizeLine;decide,λt ht=>?_⟩
         . obtain⟨y,hy,ey⟩:=Qm.mp hx
           have:=Z3 good L (JY good.nd _ (List.mem_map.mpr ⟨r,hr',rfl⟩) y hy) ey
           omega
         . have el:ZH rs R r.1=[.str "endless",.int (Rb.setN (ZU rs (qC R) r.1):Nat)]:=by unfold ZH;rw[c]
           obtain⟨H5,put,k⟩:=fin (upd H4 t (.tup [.str "endless",.int (Rb.setN (ZU rs (qC R) r.1):Nat)])) t ((fr.same s4).same (qk ht)) (ql (s4 _ _ hDk) ht) (s4.trans (qk ht)) (by rw[el];exact qd)
           exact⟨_,rfl,_,rfl,D,H5,rfl,put,k⟩
     . rintro σ' G3 ⟨v5',kvs,rfl,fr,hDk,ek,hv⟩
       rw[List.length_map,List.take_of_length_le (Nat.le_refl _)]at ek
       rw[List.length_map,List.length_map,List.take_of_length_le (Nat.le_refl _)]at hv
       exact⟨_,rfl,q G3 D R (λb u h=>fr _ _ (sG2 _ _ (sG _ _ h)) (qo h hD0)) hD0 ⟨kvs,hDk,ek,hv⟩ all⟩
end
end Rh
set_option Elab.async false
set_option linter.all false
set_option maxRecDepth 100000
set_option maxHeartbeats 4000000
namespace Rh
open PySem L2 PyProof.Rows Rb
abbrev Yi:Stmt:=top 4
abbrev zM:Stmt:=top 5
abbrev JM:Stmt:=top 16
abbrev Zz:Stmt:=top 33
abbrev Yo:Stmt:=top 34
abbrev Yh:Stmt:=top 38
abbrev Yl:Stmt:=jH (top 36) 0
abbrev Yk:Stmt:=jH (top 36) 1
abbrev Wc:Stmt:=jH (top 36) 3
abbrev U5:Stmt:=jH (top 36) 4
abbrev W3:Stmt:=jH (top 36) 5
abbrev Yt:Stmt:=jH (top 37) 0
abbrev Ys:Stmt:=jH (top 37) 1
abbrev Wg:Stmt:=jH (top 37) 3
abbrev U8:Stmt:=jH (top 37) 4
abbrev W5:Stmt:=jH (top 37) 5
section
variable {P:Program} {w:World} {K:PySem.W.Frag} {mg:Str->Option Value} {base:Heap}
theorem bx (a b:Nat):Builtin.bitXor a b=((a^^^b:Nat):Int):=by
 unfold Builtin.bitXor
 rw[bo,ba]
 have:=Rb.or_and_xor a b
 omega
def XR:Sp:=λvs H Q _=>∃b:Nat,vs=[.int b]/\b < 65536/\∀l,H l=none->Q (.ref l) (upd H l (.lst (Jg (Rb.memN b 16))))
def WX:Sp:=λvs H Q _=>∃b n:Nat,vs=[.int b,.int n]/\b < 65536/\n < 16/\∀H',Same H H'->Q (.int (Rb.turnN b n 16:Nat)) H'
theorem KW (b:Nat):b < 2^ (Builtin.Int.intBits (b:Nat)):=by
 unfold Builtin.Int.intBits
 by_cases h:b=0
 . subst h;simp
 . rw[if_neg (by simpa using h)]
   exact Nat.lt_log2_self
theorem Xt {b:Nat} (h:b < 65536):Builtin.Int.intBits (b:Nat)<=16:=by
 unfold Builtin.Int.intBits
 by_cases h0:b=0
 . subst h0;simp
 . rw[if_neg (by simpa using h0)]
   have:b.log2 < 16:=(Nat.log2_lt h0).mpr h
   exact this
theorem U1 (b i:Nat):Builtin.bitAnd ((b:Int) / 2^ ((i:Nat):Int).toNat) 1=(((b.testBit i).toNat:Nat):Int):=by
 have e1:(b:Int) / 2^ ((i:Nat):Int).toNat=((b / 2^i:Nat):Int):=by rw[Int.toNat_natCast];push_cast;rfl
 have e2:Builtin.bitAnd ((b / 2^i:Nat):Int) 1=(((b / 2^i)&&& 1:Nat):Int):=ba (b / 2^i) 1
 rw[e1,e2,Nat.and_one_is_mod,Rb.testBit_div]
 by_cases h:b / 2^i % 2=1
 . rw[h];rfl
 . have h':b / 2^i % 2=0:=by omega
   rw[h'];rfl
theorem uJ:qr ["bits"] ["bits"] (qj Yi):=⟨rfl,rfl,rfl,by decide+kernel,rfl,by decide+kernel,by decide+kernel⟩
theorem Vf {f:Addr} {fd:FuncData} (F:jM K "numbers_in" "numbers_in" Yi f fd) (B:QJ mg):qm P w K mg base qO 1 f fd ["bits"] XR:=by
 refine F.okJ uJ (λvs H Q E h=>?_) (λcdv A outer s H vs Q E hr h=>?_)
 . obtain⟨b,rfl,_⟩:=h
   rfl
 . obtain⟨b,rfl,hb,q⟩:=h
   refine⟨_,qg (qv (j3 (N':=["number","bits"]) (ix:=[none,some 0]) rfl ⟨rfl,rfl,rfl,rfl,rfl⟩
     (jp (by rfl) B.rng (qb (wp PySem.F.plainAttrs_int PySem.F.slot_int_bit_length PySem.F.type_int_bit_length kR (jv 0)) qf))
     (λC s2 H2 fp pins=>⟨qt (i:=0) (show (["number","bits"]:List Str).Nodup by decide+kernel) rfl (Or.inl rfl),jy (qu Qe (qN xt (qN xn (jv 1) (jv 0)) qi) qi (qy _)),jv 0⟩))),?_⟩
   refine⟨_,rfl,rfl,_,rfl,rfl,_,rfl,by omega,?_,λD hD=>?_⟩
   . have:=Xt hb
     omega
   . rw[Int.toNat_natCast]
     refine Za (λi σ' H'=>∃v,σ'=[v,some (.int b)]/\H'=upd H D (.lst (Jg (Rb.memN b i)))) ⟨none,rfl,rfl⟩ ?_ ?_
     . rintro i σ' H' hi ⟨v,rfl,rfl⟩
       rw[Int.zero_add]
       refine⟨_,rfl,_,rfl,_,_,rfl,rfl,by omega,_,_,rfl,rfl,rfl,_,rfl,?_⟩
       have e:decide (V.int (Builtin.bitAnd ((b:Int) / 2^ ((i:Nat):Int).toNat) 1)=V.int 1)=b.testBit i:=by
         rw[U1]
         cases b.testBit i<;>decide
       rw[e]
       have l:(Jg (Rb.memN b i)).length < sizeLine:=by
         rw[Jr]
         refine qp ?_
         have:=Xt hb
         have h1:(Rb.memN b i).length<=(List.range i).length:=List.length_filter_le _ _
         rw[List.length_range]at h1
         omega
       cases hb':b.testBit i with
       | true=>
         refine jP ⟨_,rfl,_,qd,l,some (.int i),rfl,?_⟩
         rw[jr,YJ,Rb.memN_succ,hb']
         rfl
       | false=>
         refine jf ⟨some (.int i),rfl,?_⟩
         rw[Rb.memN_succ,hb']
         simp
     . rintro σ' H' ⟨v,rfl,rfl⟩
       rw[Rb.memN_same (m:=16) hb (KW b)]
       exact q D hD
theorem yU:qr ["bits","number"] ["bits","number"] (qj zM):=⟨rfl,rfl,rfl,by decide+kernel,rfl,by decide+kernel,by decide+kernel⟩
theorem kJ {f fN fS:Addr} {fd fdN fdS:FuncData} (F:jM K "set_turned" "set_turned" zM f fd) (B:QJ mg) (hN:jq K mg "numbers_in" Yi ["bits"] fN fdN) (hS:jq K mg "set_of" Z0 ["numbers"] fS fdS):
   qm P w K mg base qO 2 f fd ["bits","number"] WX:=by
 have GN:qm P w K mg base qO 1 fN fdN ["bits"] XR:=Vf hN.fn B
 have GS:qm P w K mg base qO 1 fS fdS ["numbers"] (XQ K):=Vd hS.fn
 refine F.okJ yU (λvs H Q E h=>?_) (λcdv A outer s H vs Q E hr h=>?_)
 . obtain⟨b,n,rfl,_⟩:=h
   rfl
 . obtain⟨b,n,rfl,hb,hn,q⟩:=h
   refine⟨_,qg (qv (qJ hS GS hr (by rfl) (qb (j3 (N':=["other","number"]) (ix:=[none,some 1]) rfl ⟨rfl,rfl,rfl,rfl,rfl⟩
     (qH (qJ hN GN hr (by rfl) (qb (jv 0) qf)))
     (λC s2 H2 fp pins=>⟨qt (i:=0) (show (["other","number"]:List Str).Nodup by decide+kernel) rfl (Or.inl rfl),jO,qN Wj (jv 0) (jv 1)⟩)) qf))),?_⟩
   refine⟨_,rfl,b,rfl,hb,λl hl=>⟨l,rfl,⟨_,.of qd⟩,λD hD=>?_⟩⟩
   have nlD:l≠D:=λe=>by rw[e,qd]at hD;cases hD
   have HD:H D=none:=by rw[<-hD,qh (Ne.symm nlD)]
   refine jL (K:=K) (a:=l) (xs:=Jg (Rb.memN b 16)) (λi σ' H'=>∃v,σ'=[v,some (.int n)]/\H'=upd (upd H l (.lst (Jg (Rb.memN b 16)))) D (.lst (Jg (((Rb.memN b 16).take i).map (·^^^n))))) ⟨none,rfl,rfl⟩
     (λi σ' H' _ ⟨_,_,e⟩=>.of (by rw[e,qh nlD];exact qd)) ?_ ?_
   . rintro i x σ' H' hx ⟨v,rfl,rfl⟩
     obtain⟨m,hm,rfl⟩:=Wx hx
     refine⟨_,rfl,_,rfl,_,_,rfl,rfl,_,qd,?_,some (.int m),rfl,?_⟩
     . rw[Jr,List.length_map,List.length_take]
       refine qp (Nat.le_trans (Nat.min_le_right _ _) ?_)
       have h1:(Rb.memN b 16).length<=(List.range 16).length:=List.length_filter_le _ _
       rw[List.length_range]at h1
       omega
     . rw[jr]
       dsimp only
       rw[bx,YJ,ZY hm,List.map_append]
       rfl
   . rintro σ' H' ⟨v,rfl,rfl⟩
     rw[Jr,List.take_of_length_le (Nat.le_refl _)]
     refine⟨D,(Rb.memN b 16).map (·^^^n),rfl,.of qd,λx hx=>?_,?_⟩
     . obtain⟨y,hy,rfl⟩:=List.mem_map.mp hx
       have:=Rb.xor_lt (m:=4) (Rb.mem_memN.mp hy).1 hn
       omega
     . exact q _ (Same.upd (qk hl) HD)
end
structure Cl (K:PySem.W.Frag) (mg:Str->Option Value) (x qual fld:Str) (st:Stmt) (C f:Addr) (fd:FuncData):Prop where
 cl:z7 K C
 mkr:Mk K C f
 ns:mg x=some (.ref C)
 na:jF K C fld
 fn:jM K "__init__" qual st f fd
 bi:jx K fd ["self",fld] []
 ca:PySem.W.findIn K (.ref C) "__class__"=some (some (.builtin "object.__class__"))
 ob:PySem.W.mroIn K C (.type "object")=some true
structure Wk (K:PySem.W.Frag) (mg:Str->Option Value):Prop where
 isi:mg "isinstance"=none
 bool:mg "bool"=none
 kii:PySem.W.kitOne K (.type "int") (.type "int")=some true
 kib:PySem.W.kitOne K (.type "int") (.type "bool")=some false
 most:∃t,mg "MOST_NUMBER"=some (.int 15 t)
 mset:∃t,mg "MOST_BITS"=some (.int 65535 t)
theorem Gu {f:Str} {v:V}:[(f,v)].lookup f=some v:=by simp [List.lookup]
def Q6 (CN CE:Addr) (H:Hp) (a:Addr):W->Prop
 | .num n=>∃dx,H a=some (.ins CN dx [("number",.int (n:Nat))])
 | .edl b=>∃dx,H a=some (.ins CE dx [("bits",.int (b:Nat))])
theorem Q6.same {CN CE:Addr} {H H':Hp} {a:Addr} {w:W} (h:Q6 CN CE H a w) (s:Same H H'):Q6 CN CE H' a w:=by
 cases w with
 | num n=>obtain⟨dx,e⟩:=h;exact⟨dx,s _ _ e⟩
 | edl b=>obtain⟨dx,e⟩:=h;exact⟨dx,s _ _ e⟩
def j1:W->Str
 | .num _=>"number"
 | .edl _=>"endless"
def Zw:W->Nat
 | .num n=>n
 | .edl b=>b
section
variable {P:Program} {w:World} {K:PySem.W.Frag} {mg:Str->Option Value} {base:Heap}
def z9:Sp:=λvs H Q _=>∃i:Int,vs=[.int i]/\Q (.bl true) H
def WZ:Sp:=λvs H Q _=>∃i:Int,vs=[.int i]/\0<=i/\i<=15/\Q (.bl true) H
def UY:Sp:=λvs H Q _=>∃i:Int,vs=[.int i]/\0<=i/\i<=65535/\Q (.bl true) H
theorem uG:qr ["thing"] ["thing"] (qj JM):=⟨rfl,rfl,rfl,by decide+kernel,rfl,by decide+kernel,by decide+kernel⟩
theorem Vc {f:Addr} {fd:FuncData} (F:jM K "is_whole" "is_whole" JM f fd) (B:QJ mg) (T:Wk K mg):qm P w K mg base qO 1 f fd ["thing"] z9:=by
 refine F.okJ uG (λvs H Q E h=>?_) (λcdv A outer s H vs Q E hr h=>?_)
 . obtain⟨i,rfl,_⟩:=h
   rfl
 . obtain⟨i,rfl,q⟩:=h
   refine⟨_,qg (qv (JU (qA ji (by rfl) T.isi boot_isinstance (qb (jv 0) (qb (Qn (v:=.ty "int") (by rfl) B.int boot_int rfl) qf)))
     (Z9 (RV (qA ji (by rfl) T.isi boot_isinstance (qb (jv 0) (qb (Qn (v:=.ty "bool") (by rfl) T.bool boot_bool rfl) qf))))))),?_⟩
   exact⟨_,rfl,_,_,_,_,rfl,rfl,.int i,T.kii,_,rfl,jP ⟨_,rfl,_,_,_,_,rfl,rfl,.int i,T.kib,_,rfl,q⟩⟩
theorem yY:qr ["thing"] ["thing"] (qj Zz):=⟨rfl,rfl,rfl,by decide+kernel,rfl,by decide+kernel,by decide+kernel⟩
theorem kM {f fW:Addr} {fd fdW:FuncData} (F:jM K "is_number" "is_number" Zz f fd) (B:QJ mg) (T:Wk K mg) (hW:jq K mg "is_whole" JM ["thing"] fW fdW):qm P w K mg base qO 2 f fd ["thing"] WZ:=by
 have GW:qm P w K mg base qO 1 fW fdW ["thing"] z9:=Vc hW.fn B T
 obtain⟨t,hm⟩:=T.most
 refine F.okJ yY (λvs H Q E h=>?_) (λcdv A outer s H vs Q E hr h=>?_)
 . obtain⟨i,rfl,_⟩:=h
   rfl
 . obtain⟨i,rfl,h0,h1,q⟩:=h
   refine⟨_,qg (qv (JU (qJ hW GW hr (by rfl) (qb (jv 0) qf)) (JU (ju vk qi (jv 0) (qy _)) (Z9 (ju vk (jv 0) (QD (v:=.int 15) (by rfl) hm ⟨_,rfl⟩) (qy _)))))),?_⟩
   refine⟨_,rfl,i,rfl,_,rfl,jP ⟨_,rfl,_,_,rfl,rfl,_,rfl,?_⟩⟩
   rw[decide_eq_true h0]
   refine jP ⟨_,rfl,_,_,rfl,rfl,?_⟩
   have e:decide (i<=15)=true:=decide_eq_true h1
   show Q (.bl (decide (i<=15))) H
   rw[e]
   exact q
theorem uN:qr ["thing"] ["thing"] (qj Yo):=⟨rfl,rfl,rfl,by decide+kernel,rfl,by decide+kernel,by decide+kernel⟩
theorem xG {f fW:Addr} {fd fdW:FuncData} (F:jM K "is_set" "is_set" Yo f fd) (B:QJ mg) (T:Wk K mg) (hW:jq K mg "is_whole" JM ["thing"] fW fdW):qm P w K mg base qO 2 f fd ["thing"] UY:=by
 have GW:qm P w K mg base qO 1 fW fdW ["thing"] z9:=Vc hW.fn B T
 obtain⟨t,hm⟩:=T.mset
 refine F.okJ uN (λvs H Q E h=>?_) (λcdv A outer s H vs Q E hr h=>?_)
 . obtain⟨i,rfl,_⟩:=h
   rfl
 . obtain⟨i,rfl,h0,h1,q⟩:=h
   refine⟨_,qg (qv (JU (qJ hW GW hr (by rfl) (qb (jv 0) qf)) (JU (ju vk qi (jv 0) (qy _)) (Z9 (ju vk (jv 0) (QD (v:=.int 65535) (by rfl) hm ⟨_,rfl⟩) (qy _)))))),?_⟩
   refine⟨_,rfl,i,rfl,_,rfl,jP ⟨_,rfl,_,_,rfl,rfl,_,rfl,?_⟩⟩
   rw[decide_eq_true h0]
   refine jP ⟨_,rfl,_,_,rfl,rfl,?_⟩
   have e:decide (i<=65535)=true:=decide_eq_true h1
   show Q (.bl (decide (i<=65535))) H
   rw[e]
   exact q
def XX (C:Addr) (fld:Str) (hi:Int):Sp:=λvs H Q _=>∃(x dx:Addr) (n:Int),vs=[.ref x,.int n]/\0<=n/\n<=hi/\H x=some (.ins C dx [])/\Q .non (upd H x (.ins C dx [(fld,.int n)]))
theorem uM:qr ["self","number"] ["self","number"] (qj Yl):=⟨rfl,rfl,rfl,by decide+kernel,rfl,by decide+kernel,by decide+kernel⟩
theorem xB {f fB fW CN:Addr} {fd fdB fdW:FuncData} (F:jM K "__init__" "Numbered.__init__" Yl f fd) (B:QJ mg) (T:Wk K mg) (hW:jq K mg "is_whole" JM ["thing"] fW fdW) (hB:jq K mg "is_number" Zz ["thing"] fB fdB) (cl:z7 K CN) (na:jF K CN "number"):
   qm P w K mg base qO 3 f fd ["self","number"] (XX CN "number" 15):=by
 have GB:qm P w K mg base qO 2 fB fdB ["thing"] WZ:=kM hB.fn B T hW
 refine F.okJ uM (λvs H Q E h=>?_) (λcdv A outer s H vs Q E hr h=>?_)
 . obtain⟨x,dx,n,rfl,_⟩:=h
   rfl
 . obtain⟨x,dx,n,rfl,h0,h1,hx,q⟩:=h
   refine⟨_,qe (qM (j9 (jd (qJ hB GB hr (by rfl) (qb (jv 1) qf)))) qY qz) (qg (Wu (jv 0) (jv 1) rfl)),?_⟩
   exact⟨_,rfl,n,rfl,h0,h1,_,rfl,jf ⟨_,rfl,_,rfl,x,CN,dx,[],rfl,hx,cl,na,by decide,q⟩⟩
theorem uR:qr ["self","bits"] ["self","bits"] (qj Yt):=⟨rfl,rfl,rfl,by decide+kernel,rfl,by decide+kernel,by decide+kernel⟩
theorem xL {f fB fW CE:Addr} {fd fdB fdW:FuncData} (F:jM K "__init__" "Endless.__init__" Yt f fd) (B:QJ mg) (T:Wk K mg) (hW:jq K mg "is_whole" JM ["thing"] fW fdW) (hB:jq K mg "is_set" Yo ["thing"] fB fdB) (cl:z7 K CE) (na:jF K CE "bits"):
   qm P w K mg base qO 3 f fd ["self","bits"] (XX CE "bits" 65535):=by
 have GB:qm P w K mg base qO 2 fB fdB ["thing"] UY:=xG hB.fn B T hW
 refine F.okJ uR (λvs H Q E h=>?_) (λcdv A outer s H vs Q E hr h=>?_)
 . obtain⟨x,dx,n,rfl,_⟩:=h
   rfl
 . obtain⟨x,dx,n,rfl,h0,h1,hx,q⟩:=h
   refine⟨_,qe (qM (j9 (jd (qJ hB GB hr (by rfl) (qb (jv 1) qf)))) qY qz) (qg (Wu (jv 0) (jv 1) rfl)),?_⟩
   exact⟨_,rfl,n,rfl,h0,h1,_,rfl,jf ⟨_,rfl,_,rfl,x,CE,dx,[],rfl,hx,cl,na,by decide,q⟩⟩
def UO (CN CE:Addr):Sp:=λvs H Q _=>∃a w,vs=[.ref a]/\Q6 CN CE H a w/\∀p,H p=none->Q (.ref p) (upd H p (.tup [.str (j1 w),.int (Zw w:Nat)]))
def XN (CN CE:Addr):Sp:=λvs H Q E=>(∃a n,vs=[.ref a]/\Q6 CN CE H a (.num n))/\UO CN CE vs H Q E
def XO (CN CE:Addr):Sp:=λvs H Q E=>(∃a b,vs=[.ref a]/\Q6 CN CE H a (.edl b))/\UO CN CE vs H Q E
theorem Q6.inj {CN CE:Addr} (hne:CN≠CE) {H:Hp} {a:Addr} {u v:W} (h:Q6 CN CE H a u) (g:Q6 CN CE H a v):u=v:=by
 cases u<;>cases v<;>obtain⟨dx,e⟩:=h<;>obtain⟨dx',e'⟩:=g<;>rw[e]at e'
 . have:=(HO.ins.inj (Option.some.inj e')).2.2
   have h3:=List.cons.inj this
   have h4:=V.int.inj (Prod.mk.inj h3.1).2
   congr 1
   omega
 . exact absurd (HO.ins.inj (Option.some.inj e')).1 hne
 . exact absurd (HO.ins.inj (Option.some.inj e')).1 (Ne.symm hne)
 . have:=(HO.ins.inj (Option.some.inj e')).2.2
   have h3:=List.cons.inj this
   have h4:=V.int.inj (Prod.mk.inj h3.1).2
   congr 1
   omega
theorem uK:qr ["self"] ["self"] (qj Yk):=⟨rfl,rfl,rfl,by decide+kernel,rfl,by decide+kernel,by decide+kernel⟩
theorem xA {f CN CE:Addr} {fd:FuncData} (F:jM K "told" "Numbered.told" Yk f fd) (cl:z7 K CN) (na:jF K CN "number") (hne:CN≠CE):qm P w K mg base qO 1 f fd ["self"] (XN CN CE):=by
 refine F.okJ uK (λvs H Q E h=>?_) (λcdv A outer s H vs Q E hr h=>?_)
 . obtain⟨_,a,w,rfl,_⟩:=h
   rfl
 . obtain⟨⟨a,n,rfl,hN⟩,a',w,e,hw,q⟩:=h
   cases e
   have ew:=Q6.inj hne hw hN
   subst ew
   obtain⟨dx,hx⟩:=hN
   refine⟨_,qg (qv (jC (qb qI (qb (Qj (jv 0) rfl) qf)))),?_⟩
   exact⟨_,rfl,a,CN,dx,_,_,rfl,hx,cl,na,Gu,by show 2<=sizeLine;decide,q⟩
theorem uP:qr ["self"] ["self"] (qj Ys):=⟨rfl,rfl,rfl,by decide+kernel,rfl,by decide+kernel,by decide+kernel⟩
theorem xK {f CN CE:Addr} {fd:FuncData} (F:jM K "told" "Endless.told" Ys f fd) (cl:z7 K CE) (na:jF K CE "bits") (hne:CN≠CE):qm P w K mg base qO 1 f fd ["self"] (XO CN CE):=by
 refine F.okJ uP (λvs H Q E h=>?_) (λcdv A outer s H vs Q E hr h=>?_)
 . obtain⟨_,a,w,rfl,_⟩:=h
   rfl
 . obtain⟨⟨a,b,rfl,hN⟩,a',w,e,hw,q⟩:=h
   cases e
   have ew:=Q6.inj hne hw hN
   subst ew
   obtain⟨dx,hx⟩:=hN
   refine⟨_,qg (qv (jC (qb qI (qb (Qj (jv 0) rfl) qf)))),?_⟩
   exact⟨_,rfl,a,CE,dx,_,_,rfl,hx,cl,na,Gu,by show 2<=sizeLine;decide,q⟩
def ki (b:Bool):Sp:=λvs H Q _=>∃a,vs=[.ref a]/\Q (.bl b) H
theorem Ri:qr ["self"] ["self"] (qj W3):=⟨rfl,rfl,rfl,by decide+kernel,rfl,by decide+kernel,by decide+kernel⟩
theorem Ki {f:Addr} {fd:FuncData} (F:jM K "is_endless" "Numbered.is_endless" W3 f fd):qm P w K mg base qO 1 f fd ["self"] (ki false):=by
 refine F.okJ Ri (λvs H Q E h=>?_) (λcdv A outer s H vs Q E hr h=>?_)
 . obtain⟨a,rfl,_⟩:=h
   rfl
 . obtain⟨a,rfl,q⟩:=h
   exact⟨_,qg (qv jG),q⟩
theorem Rl:qr ["self"] ["self"] (qj W5):=⟨rfl,rfl,rfl,by decide+kernel,rfl,by decide+kernel,by decide+kernel⟩
theorem Ko {f:Addr} {fd:FuncData} (F:jM K "is_endless" "Endless.is_endless" W5 f fd):qm P w K mg base qO 1 f fd ["self"] (ki true):=by
 refine F.okJ Rl (λvs H Q E h=>?_) (λcdv A outer s H vs Q E hr h=>?_)
 . obtain⟨a,rfl,_⟩:=h
   rfl
 . obtain⟨a,rfl,q⟩:=h
   exact⟨_,qg (qv jG),q⟩
end
structure WF (K:PySem.W.Frag) (mg:Str->Option Value) where
 (CN CE fNI fEI fNT fET fNO fEO fNP fEP fNE fEE fW fB fS fT fN fO:Addr)
 (dNI dEI dNT dET dNO dEO dNP dEP dNE dEE dW dB dS dT dN dO:FuncData)
 ne:CN≠CE
 cN:Cl K mg "Numbered" "Numbered.__init__" "number" Yl CN fNI dNI
 cE:Cl K mg "Endless" "Endless.__init__" "bits" Yt CE fEI dEI
 nT:YV K CN "told" "Numbered.told" Yk ["self"] fNT dNT
 eT:YV K CE "told" "Endless.told" Ys ["self"] fET dET
 nO:YV K CN "outcome" "Numbered.outcome" U5 ["self"] fNO dNO
 eO:YV K CE "outcome" "Endless.outcome" U8 ["self"] fEO dEO
 nP:YV K CN "plus" "Numbered.plus" Wc ["self","other"] fNP dNP
 eP:YV K CE "plus" "Endless.plus" Wg ["self","other"] fEP dEP
 nE:YV K CN "is_endless" "Numbered.is_endless" W3 ["self"] fNE dNE
 eE:YV K CE "is_endless" "Endless.is_endless" W5 ["self"] fEE dEE
 hW:jq K mg "is_whole" JM ["thing"] fW dW
 hB:jq K mg "is_number" Zz ["thing"] fB dB
 hS:jq K mg "is_set" Yo ["thing"] fS dS
 hT:jq K mg "set_turned" zM ["bits","number"] fT dT
 hN:jq K mg "numbers_in" Yi ["bits"] fN dN
 hO:jq K mg "set_of" Z0 ["numbers"] fO dO
section
variable {P:Program} {w:World} {K:PySem.W.Frag} {mg:Str->Option Value} {base:Heap}
def isE:W->Bool
 | .num _=>false
 | .edl _=>true
theorem WF.gNI (h:WF K mg) (B:QJ mg) (T:Wk K mg):qm P w K mg base qO 3 h.fNI h.dNI ["self","number"] (XX h.CN "number" 15):=xB h.cN.fn B T h.hW h.hB h.cN.cl h.cN.na
theorem WF.gEI (h:WF K mg) (B:QJ mg) (T:Wk K mg):qm P w K mg base qO 3 h.fEI h.dEI ["self","bits"] (XX h.CE "bits" 65535):=xL h.cE.fn B T h.hW h.hS h.cE.cl h.cE.na
theorem WF.gNT (h:WF K mg):qm P w K mg base qO 1 h.fNT h.dNT ["self"] (XN h.CN h.CE):=xA h.nT.fn h.cN.cl h.cN.na h.ne
theorem WF.gET (h:WF K mg):qm P w K mg base qO 1 h.fET h.dET ["self"] (XO h.CN h.CE):=xK h.eT.fn h.cE.cl h.cE.na h.ne
theorem WF.gNE (h:WF K mg):qm P w K mg base qO 1 h.fNE h.dNE ["self"] (ki false):=Ki h.nE.fn
theorem WF.gEE (h:WF K mg):qm P w K mg base qO 1 h.fEE h.dEE ["self"] (ki true):=Ko h.eE.fn
theorem WF.gT (h:WF K mg) (B:QJ mg):qm P w K mg base qO 2 h.fT h.dT ["bits","number"] WX:=kJ h.hT.fn B h.hN h.hO
theorem Ku {f g:Str} {v:V} (h:(g==f)=false):[(f,v)].lookup g=none:=by simp [List.lookup,h]
theorem n1:((Str.ofString "is_endless")==(Str.ofString "number"))=false:=by decide+kernel
theorem n2:((Str.ofString "is_endless")==(Str.ofString "bits"))=false:=by decide+kernel
theorem n3:((Str.ofString "told")==(Str.ofString "number"))=false:=by decide+kernel
theorem n4:((Str.ofString "told")==(Str.ofString "bits"))=false:=by decide+kernel
theorem n5:((Str.ofString "plus")==(Str.ofString "number"))=false:=by decide+kernel
theorem n6:((Str.ofString "plus")==(Str.ofString "bits"))=false:=by decide+kernel
theorem Nc {CN CE a:Addr} {H:Hp} {w:W} {Q:VK} (h:Q6 CN CE H a w) (q:Q (.bl (isE w)) H):∃a' dx fs,V.ref a=.ref a'/\fs.lookup (Str.ofString "is_endless")=none/\((H a'=some (.ins CN dx fs)/\ki false [V.ref a] H Q E0)\/(H a'=some (.ins CE dx fs)/\ki true [V.ref a] H Q E0)):=by
 cases w with
 | num n=>obtain⟨dx,e⟩:=h;exact⟨a,dx,_,rfl,Ku n1,.inl ⟨e,a,rfl,q⟩⟩
 | edl b=>obtain⟨dx,e⟩:=h;exact⟨a,dx,_,rfl,Ku n2,.inr ⟨e,a,rfl,q⟩⟩
theorem ul {CN CE a:Addr} {H:Hp} {w:W} {Q:VK} (h:Q6 CN CE H a w) (q:∀p,H p=none->Q (.ref p) (upd H p (.tup [.str (j1 w),.int (Zw w:Nat)]))):
   ∃a' dx fs,V.ref a=.ref a'/\fs.lookup (Str.ofString "told")=none/\((H a'=some (.ins CN dx fs)/\XN CN CE [V.ref a] H Q E0)\/(H a'=some (.ins CE dx fs)/\XO CN CE [V.ref a] H Q E0)):=by
 cases w with
 | num n=>obtain⟨dx,e⟩:=id h;exact⟨a,dx,_,rfl,Ku n3,.inl ⟨e,⟨a,n,rfl,h⟩,a,_,rfl,h,q⟩⟩
 | edl b=>obtain⟨dx,e⟩:=id h;exact⟨a,dx,_,rfl,Ku n4,.inr ⟨e,⟨a,b,rfl,h⟩,a,_,rfl,h,q⟩⟩
theorem wk {X:Cx} (h:WF X.K X.mg) (hr:qW 1 X.A) {o:Expr} {ta:TE} {apos pos:Pos} {pl:Sem Bool} (he:JE X o ta)
   (ht:eval (.Call (.Attribute o "is_endless" apos) [] [] pos) X.env=(eval o X.env >>= λov=>standAt apos.atName >>= λ_=>holding [ov] (getMethod ov "is_endless" pl) >>= λr=>callWith pos r.1 r.2 (backTo pos (starEach [] X.env)) (backToKw pos (keywordEach [] X.env))):=by rfl):
   JE X (.Call (.Attribute o "is_endless" apos) [] [] pos) (λσ H Q=>ta σ H λx H1=>∃a u,x=.ref a/\Q6 h.CN h.CE H1 a u/\Q (.bl (isE u)) H1):=
 zT (za (vv he) h.cN.cl h.nE.me h.gNE hr h.nE.bi h.cE.cl h.eE.me h.gEE hr h.eE.bi ht) λσ H Q q=>⟨_,q,λx H1 ⟨a,u,e,i,q1⟩=>by subst e;exact Nc i q1⟩
theorem KA {X:Cx} (h:WF X.K X.mg) (hr:qW 1 X.A) {o:Expr} {ta:TE} {apos pos:Pos} {pl:Sem Bool} (he:JE X o ta)
   (ht:eval (.Call (.Attribute o "told" apos) [] [] pos) X.env=(eval o X.env >>= λov=>standAt apos.atName >>= λ_=>holding [ov] (getMethod ov "told" pl) >>= λr=>callWith pos r.1 r.2 (backTo pos (starEach [] X.env)) (backToKw pos (keywordEach [] X.env))):=by rfl):
   JE X (.Call (.Attribute o "told" apos) [] [] pos) (λσ H Q=>ta σ H λx H1=>∃a u,x=.ref a/\Q6 h.CN h.CE H1 a u/\∀p,H1 p=none->Q (.ref p) (upd H1 p (.tup [.str (j1 u),.int (Zw u:Nat)]))):=
 zT (za (vv he) h.cN.cl h.nT.me h.gNT hr h.nT.bi h.cE.cl h.eT.me h.gET hr h.eT.bi ht) λσ H Q q=>⟨_,q,λx H1 ⟨a,u,e,i,q1⟩=>by subst e;exact ul i q1⟩
def UR (CN CE:Addr):Sp:=λvs H Q _=>∃a o n v,vs=[.ref a,.ref o]/\Q6 CN CE H a (.num n)/\Q6 CN CE H o v/\n < 16/\okW v/\∀H' r,Same H H'->Q6 CN CE H' r (ZF (.num n) v)->Q (.ref r) H'
def US (CN CE:Addr):Sp:=λvs H Q _=>∃a o b v,vs=[.ref a,.ref o]/\Q6 CN CE H a (.edl b)/\Q6 CN CE H o v/\b < 65536/\okW v/\∀H' r,Same H H'->Q6 CN CE H' r (ZF (.edl b) v)->Q (.ref r) H'
theorem Wo {CN CE:Addr} {H:Hp} {x dx:Addr} {n:Nat} (hx:H x=none) (hd:H dx=none) (hne:dx≠x):Same H (upd (upd (upd H dx (.own x)) x (.ins CN dx [])) x (.ins CN dx [("number",.int (n:Nat))]))/\Q6 CN CE (upd (upd (upd H dx (.own x)) x (.ins CN dx [])) x (.ins CN dx [("number",.int (n:Nat))])) x (.num n):=
 ⟨λb o hb=>by rw[qh (qo hb hx),qh (qo hb hx),qh (qo hb hd)];exact hb,dx,qd⟩
theorem Wp {CN CE:Addr} {H:Hp} {x dx:Addr} {b:Nat} (hx:H x=none) (hd:H dx=none) (hne:dx≠x):Same H (upd (upd (upd H dx (.own x)) x (.ins CE dx [])) x (.ins CE dx [("bits",.int (b:Nat))]))/\Q6 CN CE (upd (upd (upd H dx (.own x)) x (.ins CE dx [])) x (.ins CE dx [("bits",.int (b:Nat))])) x (.edl b):=
 ⟨λb o hb=>by rw[qh (qo hb hx),qh (qo hb hx),qh (qo hb hd)];exact hb,dx,qd⟩
theorem uQ:qr ["self","other"] ["self","other"] (qj Wg):=⟨rfl,rfl,rfl,by decide+kernel,rfl,by decide+kernel,by decide+kernel⟩
theorem WF.gEP (h:WF K mg) (B:QJ mg) (T:Wk K mg):qm P w K mg base qO 5 h.fEP h.dEP ["self","other"] (US h.CN h.CE):=by
 refine h.eP.fn.okJ uQ (λvs H Q E z=>?_) (λcdv A outer s H vs Q E hr z=>?_)
 . obtain⟨a,o,b,v,rfl,_⟩:=z
   rfl
 . obtain⟨a,o,b,v,rfl,ha,ho,hb,hv,q⟩:=z
   refine⟨_,qe (qM (jd (wk h (hr.mono (by decide)) (jv 1))) (qg (qv (Jq h.cE.mkr (h.gEI B T) hr (by rfl) h.cE.ns h.cE.bi .nil QL (qb qi qf)))) qz)
     (qg (qv (Jq h.cE.mkr (h.gEI B T) hr (by rfl) h.cE.ns h.cE.bi .nil QL (qb (qJ h.hT (h.gT B) (hr.mono (by decide)) (by rfl) (qb (Qj (jv 0) rfl) (qb (Qj (jv 1) rfl) qf))) qf)))),?_⟩
   refine⟨_,rfl,o,v,rfl,ho,_,rfl,?_⟩
   cases v with
   | edl c=>
     refine jP (λx dx hx hd hne=>⟨x,dx,0,rfl,by decide,by decide,qd,rfl,?_⟩)
     obtain⟨s1,i1⟩:=Wp (CN:=h.CN) (CE:=h.CE) (b:=0) hx hd hne
     exact q _ _ s1 i1
   | num n=>
     obtain⟨dx0,e0⟩:=id ha
     obtain⟨dx1,e1⟩:=id ho
     refine jf ⟨_,rfl,a,h.CE,dx0,_,_,rfl,e0,h.cE.cl,h.cE.na,Gu,_,rfl,o,h.CN,dx1,_,_,rfl,e1,h.cN.cl,h.cN.na,Gu,b,n,rfl,hb,hv,λH1 s1 x dx hx hd hne=>?_⟩
     have lt:=XI (k:=4) (b:=b) (Nat.le_refl _) hv
     refine⟨x,dx,_,rfl,by omega,?_,qd,rfl,?_⟩
     . have:turnN b n 16 < 65536:=lt
       omega
     . obtain⟨s2,i2⟩:=Wp (CN:=h.CN) (CE:=h.CE) (b:=turnN b n 16) hx hd hne
       exact q _ _ (s1.trans s2) i2
theorem uL:qr ["self","other"] ["self","other"] (qj Wc):=⟨rfl,rfl,rfl,by decide+kernel,rfl,by decide+kernel,by decide+kernel⟩
theorem WF.gNP (h:WF K mg) (B:QJ mg) (T:Wk K mg):qm P w K mg base qO 6 h.fNP h.dNP ["self","other"] (UR h.CN h.CE):=by
 refine h.nP.fn.okJ uL (λvs H Q E z=>?_) (λcdv A outer s H vs Q E hr z=>?_)
 . obtain⟨a,o,b,v,rfl,_⟩:=z
   rfl
 . obtain⟨a,o,n,v,rfl,ha,ho,hn,hv,q⟩:=z
   refine⟨_,qe (qM (jd (wk h (hr.mono (by decide)) (jv 1))) (qg (qv (wg h.eP h.cE.cl (h.gEP B T) hr (jv 1) (qb (jv 0) qf)))) qz)
     (qg (qv (Jq h.cN.mkr (h.gNI B T) (hr.mono (by decide)) (by rfl) h.cN.ns h.cN.bi .nil QL (qb (qN Wj (Qj (jv 0) rfl) (Qj (jv 1) rfl)) qf)))),?_⟩
   refine⟨_,rfl,o,v,rfl,ho,_,rfl,?_⟩
   cases v with
   | edl c=>
     obtain⟨dx1,e1⟩:=id ho
     exact jP ⟨_,rfl,o,dx1,_,rfl,e1,Ku n6,_,rfl,o,a,c,.num n,rfl,ho,ha,hv,hn,λH' r s i=>q H' r s i⟩
   | num m=>
     obtain⟨dx0,e0⟩:=id ha
     obtain⟨dx1,e1⟩:=id ho
     refine jf ⟨_,rfl,a,h.CN,dx0,_,_,rfl,e0,h.cN.cl,h.cN.na,Gu,_,rfl,o,h.CN,dx1,_,_,rfl,e1,h.cN.cl,h.cN.na,Gu,_,_,rfl,rfl,λx dx hx hd hne=>?_⟩
     have lt:n^^^m < 16:=xor_lt (m:=4) hn hv
     refine⟨x,dx,((n^^^m:Nat):Int),by rw[<-bx];rfl,by omega,by omega,qd,rfl,?_⟩
     obtain⟨s2,i2⟩:=Wo (CN:=h.CN) (CE:=h.CE) (n:=n^^^m) hx hd hne
     exact q _ _ s2 i2
theorem u7 {CN CE a:Addr} {H:Hp} {u:W} {Q:VK} {t:TA} {σ:L2.St} (h:Q6 CN CE H a u) (hu:okW u) (ht:t σ H λvs H2=>∃o v,vs=[.ref o]/\Q6 CN CE H2 a u/\Q6 CN CE H2 o v/\okW v/\∀H' r,Same H2 H'->Q6 CN CE H' r (ZF u v)->Q (.ref r) H')
   (mono:∀R R':List V->Hp->Prop,(∀vs H,R vs H->R' vs H)->t σ H R->t σ H R'):
   ∃a' dx fs,V.ref a=.ref a'/\fs.lookup (Str.ofString "plus")=none/\((H a'=some (.ins CN dx fs)/\t σ H λvs H2=>UR CN CE (V.ref a::vs) H2 Q E0)\/(H a'=some (.ins CE dx fs)/\t σ H λvs H2=>US CN CE (V.ref a::vs) H2 Q E0)):=by
 cases u with
 | num n=>
   obtain⟨dx,e⟩:=id h
   exact⟨a,dx,_,rfl,Ku n5,.inl ⟨e,mono _ _ (λvs H2 ⟨o,v,e1,h1,h2,h3,h4⟩=>⟨a,o,n,v,by rw[e1],h1,h2,hu,h3,h4⟩) ht⟩⟩
 | edl b=>
   obtain⟨dx,e⟩:=id h
   exact⟨a,dx,_,rfl,Ku n6,.inr ⟨e,mono _ _ (λvs H2 ⟨o,v,e1,h1,h2,h3,h4⟩=>⟨a,o,b,v,by rw[e1],h1,h2,hu,h3,h4⟩) ht⟩⟩
theorem KB {X:Cx} (h:WF X.K X.mg) (B:QJ X.mg) (T:Wk X.K X.mg) (hr:qW 6 X.A) {o e:Expr} {ta:TE} {t:TA} {apos pos:Pos} {pl:Sem Bool} (he:JE X o ta) (ha:JA X [e] t) (hst:starEach [e] X.env=(false,eval e X.env)::starEach [] X.env:=by rfl)
   (ht:eval (.Call (.Attribute o "plus" apos) [e] [] pos) X.env=(eval o X.env >>= λov=>standAt apos.atName >>= λ_=>holding [ov] (getMethod ov "plus" pl) >>= λr=>callWith pos r.1 r.2 (backTo pos (starEach [e] X.env)) (backToKw pos (keywordEach [] X.env))):=by rfl):
   JE X (.Call (.Attribute o "plus" apos) [e] [] pos) (λσ H Q=>ta σ H λx H1=>∃a u,x=.ref a/\Q6 h.CN h.CE H1 a u/\okW u/\t σ H1 λvs H2=>∃o v,vs=[.ref o]/\Q6 h.CN h.CE H2 a u/\Q6 h.CN h.CE H2 o v/\okW v/\∀H' r,Same H2 H'->Q6 h.CN h.CE H' r (ZF u v)->Q (.ref r) H'):=
 zT (wb (vv he) h.cN.cl h.nP.me (h.gNP B T) hr h.nP.bi h.cE.cl h.eP.me (h.gEP B T) (hr.mono (by decide)) h.eP.bi (Mi ha) hst rfl ht) λσ H Q q=>⟨_,q,λx H1 ⟨a,u,e,i,hu,q1⟩=>by
   subst e
   exact u7 (t:=aWk t) i hu ⟨_,q1,λvs H2 z=>z⟩ λR R' k ⟨G,g,z⟩=>⟨G,g,λvs H2 y=>k vs H2 (z vs H2 y)⟩⟩
def Wl (CN CE:Addr) (H:Hp) (as:List Addr) (ws:List W):Prop:=as.length=ws.length/\∀(i:Nat) (a:Addr) (u:W),as[i]?=some a->ws[i]?=some u->Q6 CN CE H a u
def UP (K:PySem.W.Frag) (CN CE:Addr):Sp:=λvs H Q _=>∃(l:Addr) (as:List Addr) (ws:List W),vs=[.ref l]/\SqL K H l (as.map V.ref)/\Wl CN CE H as ws/\(∀u∈ws,okW u)/\∀H' r,Same H H'->Q6 CN CE H' r (Qg ws)->Q (.ref r) H'
theorem zK:qr ["worths","total","worth"] ["worths"] (qj Yh):=⟨rfl,rfl,rfl,by decide+kernel,rfl,by decide+kernel,by decide+kernel⟩
theorem Wz {ws:List W} (h:∀u∈ws,okW u) (i:Nat):okW ((ws.take i).foldl ZF (.num 0)):=by
 have h':∀u∈ws.take i,okW u:=λu hu=>h u (List.mem_of_mem_take hu)
 rw[Vu h']
 exact yy h'
theorem xx {f:Addr} {fd:FuncData} (F:jM K "sum_of" "sum_of" Yh f fd) (h:WF K mg) (B:QJ mg) (T:Wk K mg):qm P w K mg base qO 7 f fd ["worths"] (UP K h.CN h.CE):=by
 refine F.okJ zK (λvs H Q E z=>?_) (λcdv A outer s H vs Q E hr z=>?_)
 . obtain⟨l,as,ws,rfl,_⟩:=z
   rfl
 . obtain⟨l,as,ws,rfl,hS,hW,hok,q⟩:=z
   refine⟨_,qe (qw (i:=1) zK.nd rfl (Or.inl rfl) (Jq h.cN.mkr (h.gNI B T) (hr.mono (by decide)) (by rfl) h.cN.ns h.cN.bi .nil QL (qb qi qf)))
     (qe (jc PassesOwn.never rfl (qH (jv 0)) (qt (i:=2) zK.nd rfl (Or.inl rfl)) (qg (qw (i:=1) zK.nd rfl (Or.inl rfl) (KB h B T hr (jv 1) (qb (jv 2) qf)))))
     (qg (qv (jv 1)))),?_⟩
   intro x dx hx hd hne
   refine⟨x,dx,0,rfl,by decide,by decide,qd,rfl,?_⟩
   obtain⟨s1,i1⟩:=Wo (CN:=h.CN) (CE:=h.CE) (n:=0) hx hd hne
   refine⟨_,rfl,l,rfl,⟨_,s1.seq hS⟩,?_⟩
   refine jm (K:=K) (a:=l) (xs:=as.map V.ref) (λi σ H'=>∃r v,σ=[some (.ref l),some (.ref r),v]/\Same H H'/\Q6 h.CN h.CE H' r ((ws.take i).foldl ZF (.num 0))) ⟨x,none,rfl,s1,i1⟩ (λi σ H' _ ⟨_,_,_,e,_⟩=>e.seq hS) ?_ ?_
   . rintro i y σ H' hy ⟨r,v,rfl,s2,i2⟩
     rw[List.getElem?_map]at hy
     cases ea:as[i]? with
     | none=>rw[ea]at hy;cases hy
     | some o=>
       rw[ea]at hy
       obtain rfl:=(Option.some.inj hy).symm
       have hi:i < ws.length:=by
         have:=(List.getElem?_eq_some_iff.mp ea).1
         rw[hW.1]at this
         exact this
       have ew:ws[i]?=some ws[i]:=List.getElem?_eq_getElem hi
       have io:=(hW.2 i o _ ea ew).same s2
       have et:ws.take (i+1)=ws.take i++[ws[i]]:=by rw[List.take_add_one,ew];rfl
       refine⟨_,rfl,r,_,rfl,i2,Wz hok i,_,rfl,o,_,rfl,i2,io,hok _ (List.getElem_mem hi),λH3 r3 s3 i3=>?_⟩
       refine⟨r3,_,rfl,s2.trans s3,?_⟩
       rw[et,List.foldl_append]
       exact i3
   . rintro σ H' ⟨r,v,rfl,s2,i2⟩
     refine⟨_,rfl,q _ _ s2 ?_⟩
     rw[List.length_map,hW.1,List.take_of_length_le (Nat.le_refl _),Vu hok]at i2
     exact i2
def Zn:W->Str
 | .num n=>if n=0 then "lost" else "won"
 | .edl b=>if b.testBit 0=true then "won" else "drawn"
def yL (CN CE:Addr):Sp:=λvs H Q _=>∃a n,vs=[.ref a]/\Q6 CN CE H a (.num n)/\Q (.str (Zn (.num n))) H
def yM (CN CE:Addr):Sp:=λvs H Q _=>∃a b,vs=[.ref a]/\Q6 CN CE H a (.edl b)/\b < 65536/\∀H',Same H H'->Q (.str (Zn (.edl b))) H'
theorem Rg:qr ["self"] ["self"] (qj U5):=⟨rfl,rfl,rfl,by decide+kernel,rfl,by decide+kernel,by decide+kernel⟩
theorem Rk:qr ["self"] ["self"] (qj U8):=⟨rfl,rfl,rfl,by decide+kernel,rfl,by decide+kernel,by decide+kernel⟩
theorem WF.gNO (h:WF K mg):qm P w K mg base qO 1 h.fNO h.dNO ["self"] (yL h.CN h.CE):=by
 refine h.nO.fn.okJ Rg (λvs H Q E z=>?_) (λcdv A outer s H vs Q E hr z=>?_)
 . obtain⟨a,n,rfl,_⟩:=z
   rfl
 . obtain⟨a,n,rfl,⟨dx,e⟩,q⟩:=z
   refine⟨_,qe (qM (qu Qe (Qj (jv 0) rfl) qi (qy _)) (qg (qv qI)) qz) (qg (qv qI)),?_⟩
   refine⟨_,rfl,a,h.CN,dx,_,_,rfl,e,h.cN.cl,h.cN.na,Gu,rfl,_,rfl,?_⟩
   have q:Q (.str (if n=0 then "lost" else "won")) H:=q
   by_cases c:n=0
   . subst c
     rw[if_pos rfl]at q
     exact QE (by decide) q
   . rw[if_neg c]at q
     exact Qb (decide_eq_false λz=>c (by have:=V.int.inj z;omega)) q
theorem WF.gEO (h:WF K mg) (B:QJ mg):qm P w K mg base qO 2 h.fEO h.dEO ["self"] (yM h.CN h.CE):=by
 have GN:qm P w K mg base qO 1 h.fN h.dN ["bits"] XR:=Vf h.hN.fn B
 refine h.eO.fn.okJ Rk (λvs H Q E z=>?_) (λcdv A outer s H vs Q E hr z=>?_)
 . obtain⟨a,b,rfl,_⟩:=z
   rfl
 . obtain⟨a,b,rfl,⟨dx,e⟩,hb,q⟩:=z
   refine⟨_,qe (qM (qu Jf qi (qJ h.hN GN hr (by rfl) (qb (Qj (jv 0) rfl) qf)) (by with_unfolding_all rfl)) (qg (qv qI)) qz) (qg (qv qI)),?_⟩
   refine⟨_,rfl,a,h.CE,dx,_,_,rfl,e,h.cE.cl,h.cE.na,Gu,b,rfl,hb,λl hl=>?_⟩
   refine⟨l,_,rfl,.inl (.of qd),rfl,JX _,_,rfl,?_⟩
   have e0:ZM (.int ((0:Nat):Int)) (Jg (memN b 16))=b.testBit 0:=by
     rw[zb]
     unfold memN
     rw[Bool.eq_iff_iff,decide_eq_true_iff,List.mem_filter]
     exact⟨λh=>h.2,λh=>⟨by decide,h⟩⟩
   have q:=q _ (qk (o:=HO.lst (Jg (memN b 16))) hl)
   have q:Q (.str (if b.testBit 0=true then "won" else "drawn")) (upd H l (HO.lst (Jg (memN b 16)))):=q
   show if ZM (.int ((0:Nat):Int)) (Jg (memN b 16))=true then _ else _
   rw[e0]
   cases c:b.testBit 0 with
   | true=>rw[if_pos c]at q;exact jP q
   | false=>rw[if_neg (by rw[c];exact Bool.false_ne_true)]at q;exact jf q
theorem n7:((Str.ofString "outcome")==(Str.ofString "number"))=false:=by decide+kernel
theorem n8:((Str.ofString "outcome")==(Str.ofString "bits"))=false:=by decide+kernel
theorem Ka {CN CE a:Addr} {H:Hp} {w:W} {Q:VK} (h:Q6 CN CE H a w) (ok:okW w) (q:∀H',Same H H'->Q (.str (Zn w)) H'):
   ∃a' dx fs,V.ref a=.ref a'/\fs.lookup (Str.ofString "outcome")=none/\((H a'=some (.ins CN dx fs)/\yL CN CE [V.ref a] H Q E0)\/(H a'=some (.ins CE dx fs)/\yM CN CE [V.ref a] H Q E0)):=by
 cases w with
 | num n=>obtain⟨dx,e⟩:=id h;exact⟨a,dx,_,rfl,Ku n7,.inl ⟨e,a,n,rfl,h,q H λ_ _ z=>z⟩⟩
 | edl b=>obtain⟨dx,e⟩:=id h;exact⟨a,dx,_,rfl,Ku n8,.inr ⟨e,a,b,rfl,h,ok,q⟩⟩
theorem KC {X:Cx} (h:WF X.K X.mg) (B:QJ X.mg) (hr:qW 2 X.A) {o:Expr} {ta:TE} {apos pos:Pos} {pl:Sem Bool} (he:JE X o ta)
   (ht:eval (.Call (.Attribute o "outcome" apos) [] [] pos) X.env=(eval o X.env >>= λov=>standAt apos.atName >>= λ_=>holding [ov] (getMethod ov "outcome" pl) >>= λr=>callWith pos r.1 r.2 (backTo pos (starEach [] X.env)) (backToKw pos (keywordEach [] X.env))):=by rfl):
   JE X (.Call (.Attribute o "outcome" apos) [] [] pos) (λσ H Q=>ta σ H λx H1=>∃a u,x=.ref a/\Q6 h.CN h.CE H1 a u/\okW u/\∀H',Same H1 H'->Q (.str (Zn u)) H'):=
 zT (za (vv he) h.cN.cl h.nO.me h.gNO (hr.mono (by decide)) h.nO.bi h.cE.cl h.eO.me (h.gEO B) hr h.eO.bi ht) λσ H Q q=>⟨_,q,λx H1 ⟨a,u,e,i,k,q1⟩=>by subst e;exact Ka i k q1⟩
end
end Rh
set_option Elab.async false
set_option linter.all false
set_option maxRecDepth 100000
set_option maxHeartbeats 4000000
namespace Rh
open PySem L2 PyProof.Rows MLab Rb
abbrev JN:Stmt:=top 29
abbrev NV:Stmt:=top 46
abbrev uS:Stmt:=top 48
abbrev uV:Stmt:=top 49
structure Uv (H:Hp) (h:Addr) (rs:jt) (hs:List Str):Prop where
 at_:H h=some (.lst (hs.map V.str))
 le:hs.length<=8
 in_:∀z∈hs,∃r∈rs,r.1=z
def zJ (CG:Addr):Sp:=λvs H Q _=>∃(g:Addr) (rs:jt) (z:Str),vs=[.ref g,.str z]/\jQ CG H g rs/\(∃r∈rs,r.1=z)/\∀H',Same H H'->Q .non H'
def jK (rs:jt) (z:Str):List Str:=match rs.find? (λr=>decide (r.1=z)) with
 | some r=>r.2
 | none=>[]
theorem YD {rs:jt} {r:Str×List Str} (hn:(rs.map (·.1)).Nodup) (h:r∈rs):jK rs r.1=r.2:=by
 unfold jK
 rw[YL hn h]
theorem qF {rs:jt} (g:qB rs) {z y:Str} (hz:z∈rs.map (·.1)):y∈jK rs z↔y∈Js rs z:=by
 obtain⟨r,hr,rfl⟩:=List.mem_map.mp hz
 rw[YD g.nd hr,vz g hr]
theorem qaq {rs:jt} (g:qB rs) {num:Str->Option Nat} {stp:Str->Nat} (L:ZV (Js rs) (·∈rs.map (·.1)) num stp):ZV (jK rs) (·∈rs.map (·.1)) num stp where
 cl:=λ{x y} hx hy=>L.cl hx ((qF g hx).mp hy)
 n1:=λ{x n m} hx e lt=>let ⟨y,hy,k⟩:=L.n1 hx e lt;⟨y,(qF g hx).mpr hy,k⟩
 n2:=λ{x y n} hx e hy=>L.n2 hx e ((qF g hx).mp hy)
 n3:=λ{x y n} hx e hy gt=>let ⟨z,hz,k⟩:=L.n3 hx e ((qF g hx).mp hy) gt;⟨z,(qF g (L.cl hx ((qF g hx).mp hy))).mpr hz,k⟩
 n4:=λ{x y n m} hx e hy=>L.n4 hx e ((qF g hx).mp hy)
 e:=λ{x m} hx e lo hi=>by
   obtain⟨y,hy,ey,ly⟩:=L.e hx e (λj hj=>let ⟨y,hy,k⟩:=lo j hj;⟨y,(qF g hx).mp hy,k⟩) (λy hy=>hi y ((qF g hx).mpr hy))
   exact⟨y,(qF g hx).mpr hy,ey,λz hz=>ly z ((qF g (L.cl hx hy)).mp hz)⟩
section
variable {P:Program} {w:World} {K:PySem.W.Frag} {mg:Str->Option Value} {base:Heap}
abbrev yt:List Str:=["ground","thing"]
theorem NR:qr yt yt (qj JN):=⟨rfl,rfl,rfl,by decide+kernel,rfl,by decide+kernel,by decide+kernel⟩
theorem Ve {f CG:Addr} {fd:FuncData} (F:jM K "need_place" "need_place" JN f fd) (G:Qv mg) (M:GM K mg CG):qm P w K mg base qO 2 f fd yt (zJ CG):=by
 obtain⟨fC,fdC,C⟩:=M.cls
 obtain⟨fN,fdN,hN⟩:=M.nm
 have GN:qm P w K mg base qO 1 fN fdN ["self"] (QK CG):=QF hN.fn C G
 refine F.okJ NR (λvs H Q E h=>?_) (λcdv A outer s H vs Q E hr h=>?_)
 . obtain⟨g,rs,z,rfl,_⟩:=h
   rfl
 . obtain⟨g,rs,z,rfl,gr,hz,q⟩:=h
   refine⟨_,qg (qM (qu QB (jv 1) (Xm hN C.cl GN hr (jv 0)) (by with_unfolding_all rfl)) qY qz),?_⟩
   obtain⟨dx,fs,hg,l1,l2⟩:=gr.ins
   refine⟨_,rfl,_,rfl,g,dx,fs,rfl,hg,l1,g,rs,rfl,gr,λl hl=>⟨l,_,rfl,.inl (.of qd),rfl,zc _,_,rfl,?_⟩⟩
   have e:ZM (.str z) ((rs.map (·.1)).map V.str)=true:=Ww (by obtain⟨r,hr',rfl⟩:=hz;exact List.mem_map.mpr ⟨r,hr',rfl⟩)
   show if (!ZM (.str z) ((rs.map (·.1)).map V.str))=true then _ else _
   rw[e]
   exact jf (q _ (qk hl))
end
def wT (rs:jt) (R:Rs Str) (z:Str):W:=match qC R z with
 | some n=>.num n
 | none=>.edl (setN (ZU rs (qC R) z))
theorem z8 {rs:jt} {R:Rs Str} {z:Str} {n:Nat} (e:qC R z=some n):wT rs R z=.num n:=by unfold wT;rw[e]
theorem XG {rs:jt} {R:Rs Str} {z:Str} (e:qC R z=none):wT rs R z=.edl (setN (ZU rs (qC R) z)):=by unfold wT;rw[e]
theorem WN {rs:jt} (good:qB rs) {R:Rs Str} (L:ZV (Js rs) (·∈rs.map (·.1)) (qC R) (J4 R)) {z:Str} (hz:z∈rs.map (·.1)):okW (wT rs R z):=by
 cases e:qC R z with
 | some n=>
   rw[z8 e]
   have:=Z3 good L hz e
   show n < 16
   omega
 | none=>
   rw[XG e]
   show setN _ < 65536
   refine setN_lt (m:=16) λx hx=>?_
   obtain⟨y,hy,ey⟩:=Qm.mp hx
   have:=Z3 good L (L.cl hz hy) ey
   omega
def uB (CN CE:Addr):Sp:=λvs H Q _=>∃(t:Addr) (rs:jt) (R:Rs Str) (z:Str),vs=[.ref t]/\H t=some (.tup (ZH rs R z))/\okW (wT rs R z)/\∀a H',Same H H'->Q6 CN CE H' a (wT rs R z)->Q (.ref a) H'
def Gc (CN CE:Addr):Sp:=λvs H Q _=>∃(D h:Addr) (rs:jt) (R:Rs Str) (hs:List Str),vs=[.ref D,.ref h]/\Zs H D rs R/\Uv H h rs hs/\(∀z∈hs,okW (wT rs R z))/\∀a H',Same H H'->Q6 CN CE H' a (Qg (hs.map (wT rs R)))->Q (.ref a) H'
def UT:Sp:=λvs H Q _=>∃(D h:Addr) (rs:jt) (R:Rs Str) (hs:List Str),vs=[.ref D,.ref h]/\Zs H D rs R/\Uv H h rs hs/\(∀z∈hs,okW (wT rs R z))/\∀H',Same H H'->Q (.str (Zn (Qg (hs.map (wT rs R))))) H'
section
variable {P:Program} {w:World} {K:PySem.W.Frag} {mg:Str->Option Value} {base:Heap}
theorem MZ:qr ["label"] ["label"] (qj NV):=⟨rfl,rfl,rfl,by decide+kernel,rfl,by decide+kernel,by decide+kernel⟩
theorem Gp {f:Addr} {fd:FuncData} (F:jM K "label_worth" "label_worth" NV f fd) (h:WF K mg) (B:QJ mg) (T:Wk K mg):qm P w K mg base qO 5 f fd ["label"] (uB h.CN h.CE):=by
 refine F.okJ MZ (λvs H Q E z=>?_) (λcdv A outer s H vs Q E hr z=>?_)
 . obtain⟨t,rs,R,z,rfl,_⟩:=z
   rfl
 . obtain⟨t,rs,R,z,rfl,ht,ok,q⟩:=z
   refine⟨_,qe (qM (qu Qe (qZ jn (jv 0) qi (λ_ _=>rfl)) qI (qy _)) (qg (qv (Jq h.cN.mkr (h.gNI B T) hr (by rfl) h.cN.ns h.cN.bi .nil QL (qb (qZ jn (jv 0) qi (λ_ _=>rfl)) qf)))) qz)
     (qg (qv (Jq h.cE.mkr (h.gEI B T) hr (by rfl) h.cE.ns h.cE.bi .nil QL (qb (qZ jn (jv 0) qi (λ_ _=>rfl)) qf)))),?_⟩
   cases e:qC R z with
   | some n=>
     rw[z8 e]at ok q
     have el:ZH rs R z=[.str "number",.int (n:Nat),.int (J4 R z:Nat)]:=by unfold ZH;rw[e]
     rw[el]at ht
     refine⟨_,rfl,t,_,0,_,rfl,rfl,.of ht,rfl,rfl,_,rfl,QE (by decide+kernel) ?_⟩
     refine⟨_,rfl,t,_,1,_,rfl,rfl,.of ht,rfl,λx dx hx hd hne=>⟨x,dx,_,rfl,by omega,?_,qd,rfl,?_⟩⟩
     . have:n < 16:=ok
       omega
     . obtain⟨s1,i1⟩:=Wo (CN:=h.CN) (CE:=h.CE) (n:=n) hx hd hne
       exact q _ _ s1 i1
   | none=>
     rw[XG e]at ok q
     have el:ZH rs R z=[.str "endless",.int (setN (ZU rs (qC R) z):Nat)]:=by unfold ZH;rw[e]
     rw[el]at ht
     refine⟨_,rfl,t,_,0,_,rfl,rfl,.of ht,rfl,rfl,_,rfl,Qb (by decide+kernel) ?_⟩
     refine⟨_,rfl,t,_,1,_,rfl,rfl,.of ht,rfl,λx dx hx hd hne=>⟨x,dx,_,rfl,by omega,?_,qd,rfl,?_⟩⟩
     . have:setN (ZU rs (qC R) z) < 65536:=ok
       omega
     . obtain⟨s1,i1⟩:=Wp (CN:=h.CN) (CE:=h.CE) (b:=setN (ZU rs (qC R) z)) hx hd hne
       exact q _ _ s1 i1
theorem NQ:qr ["labels","heap"] ["labels","heap"] (qj uS):=⟨rfl,rfl,rfl,by decide+kernel,rfl,by decide+kernel,by decide+kernel⟩
theorem Rx {f fL fS:Addr} {fd fdL fdS:FuncData} (F:jM K "worth_by" "worth_by" uS f fd) (h:WF K mg) (B:QJ mg) (T:Wk K mg) (hL:jq K mg "label_worth" NV ["label"] fL fdL) (hS:jq K mg "sum_of" Yh ["worths"] fS fdS):qm P w K mg base qO 8 f fd ["labels","heap"] (Gc h.CN h.CE):=by
 have GL:qm P w K mg base qO 5 fL fdL ["label"] (uB h.CN h.CE):=Gp hL.fn h B T
 have GS:qm P w K mg base qO 7 fS fdS ["worths"] (UP K h.CN h.CE):=xx hS.fn h B T
 refine F.okJ NQ (λvs H Q E z=>?_) (λcdv A outer s H vs Q E hr z=>?_)
 . obtain⟨D,h',rs,R,hs,rfl,_⟩:=z
   rfl
 . obtain⟨D,h',rs,R,hs,rfl,lb,hh,ok,q⟩:=z
   have hu:=jV hr
   have r4:qW 5 _:=hr.mono (by decide)
   refine⟨_,qg (qv (qJ hS GS hr (by rfl) (qb (j3 (N':=["place","labels"]) (ix:=[none,some 0]) (te:=zj (uB h.CN h.CE) [] E0 (jI (WT (qU 1) (qU 0)) Zd)) rfl ⟨rfl,rfl,rfl,rfl,rfl⟩ (qH (jv 1)) (λC s2 H2 fp pins=>
       ⟨qt (i:=0) (show (["place","labels"]:List Str).Nodup by decide+kernel) rfl (Or.inl rfl),jO,qJ hL GL r4 (by rfl) (qb (qL hu (jv 1) (jv 0) (λ_ _=>rfl)) qf)⟩)) qf))),?_⟩
   refine⟨_,rfl,h',rfl,⟨_,.of hh.at_⟩,λW hW=>?_⟩
   refine jL (K:=K) (a:=h') (xs:=hs.map V.str) (λj σ'' G=>∃(v0:Option V) (as:List Addr),σ''=[v0,some (.ref D)]/\Same H G/\G W=some (.lst (as.map V.ref))/\Wl h.CN h.CE G as ((hs.take j).map (wT rs R)))
     ⟨none,[],rfl,qk hW,qd,rfl,λi a u e=>(nomatch e)⟩ (λj σ'' G _ ⟨_,_,_,s,_⟩=>.of (s _ _ hh.at_)) ?_ ?_
   . rintro j y σ'' G hy ⟨v0,as,rfl,sG,hG,wl⟩
     obtain⟨z,ez,hz,rfl⟩:=J1 hy
     obtain⟨kvs,hD,_,hv⟩:=(lb.mono sG).at_
     obtain⟨r,hr',er⟩:=hh.in_ z hz
     obtain⟨t,et,ht⟩:=hv r hr'
     rw[er]at et ht
     refine⟨_,rfl,_,rfl,D,_,rfl,by rw[<-et];exact jW.k (k:=(Sum.inr z:qE)) hD,t,rs,R,z,rfl,ht,ok z hz,λa G1 s1 ia=>?_⟩
     have l8:=hh.le
     have lw:=wl.1
     rw[List.length_map,List.length_take]at lw
     have nW:H W=none:=hW
     refine⟨_,s1 _ _ hG,by rw[List.length_map];exact qp (by omega),_,as++[a],rfl,Same.upd (sG.trans s1) hW,by rw[List.map_append];exact qd,?_⟩
     have up:∀{b:Addr} {u:Rb.W},Q6 h.CN h.CE G1 b u->Q6 h.CN h.CE (upd G1 W (.lst (as.map V.ref++[V.ref a]))) b u:=λ{b u} hb=>by
       have hW1:=s1 _ _ hG
       cases u with
       | num n=>obtain⟨dx,e⟩:=hb;exact⟨dx,by rw[qh (λq=>by rw[q,hW1]at e;cases e)];exact e⟩
       | edl n=>obtain⟨dx,e⟩:=hb;exact⟨dx,by rw[qh (λq=>by rw[q,hW1]at e;cases e)];exact e⟩
     rw[List.take_add_one,ez,List.map_append]
     refine⟨by rw[List.length_append,List.length_append,wl.1];rfl,λi b u e1 e2=>?_⟩
     rcases Qz e1 with ⟨i1,e1⟩ | ⟨i1,rfl⟩
     . rcases Qz (show (List.map (wT rs R) (hs.take j)++[wT rs R z])[i]?=some u from e2) with ⟨_,e2⟩ | ⟨i2,_⟩
       . exact up ((wl.2 i b u e1 e2).same s1)
       . have:=wl.1;omega
     . rcases Qz (show (List.map (wT rs R) (hs.take j)++[wT rs R z])[i]?=some u from e2) with ⟨i2,_⟩ | ⟨_,rfl⟩
       . have:=wl.1;omega
       . exact up ia
   . rintro σ'' G ⟨v0,as,rfl,sG,hG,wl⟩
     rw[List.length_map,List.take_of_length_le (Nat.le_refl _)]at wl
     refine⟨W,as,_,rfl,.of hG,wl,λu hu=>?_,λH' r s' i'=>q r H' (sG.trans s') i'⟩
     obtain⟨z,hz,rfl⟩:=List.mem_map.mp hu
     exact ok z hz
structure Uw (K:PySem.W.Frag) (mg:Str->Option Value):Prop where
 place:∃f fd,jq K mg "need_place" JN yt f fd
 lw:∃f fd,jq K mg "label_worth" NV ["label"] f fd
 sum:∃f fd,jq K mg "sum_of" Yh ["worths"] f fd
 wby:∃f fd,jq K mg "worth_by" uS ["labels","heap"] f fd
 oby:∃f fd,jq K mg "outcome_by" uV ["labels","heap"] f fd
theorem NS:qr ["labels","heap"] ["labels","heap"] (qj uV):=⟨rfl,rfl,rfl,by decide+kernel,rfl,by decide+kernel,by decide+kernel⟩
theorem Rz {f:Addr} {fd:FuncData} (F:jM K "outcome_by" "outcome_by" uV f fd) (h:WF K mg) (B:QJ mg) (Z:Wk K mg) (O:Uw K mg):qm P w K mg base qO 9 f fd ["labels","heap"] UT:=by
 obtain⟨fL,fdL,hL⟩:=O.lw
 obtain⟨fS,fdS,hS⟩:=O.sum
 obtain⟨fW,fdW,hW⟩:=O.wby
 have GW:qm P w K mg base qO 8 fW fdW ["labels","heap"] (Gc h.CN h.CE):=Rx hW.fn h B Z hL hS
 refine F.okJ NS (λvs H Q E z=>?_) (λcdv A outer s H vs Q E hr z=>?_)
 . obtain⟨D,h',rs,R,hs,rfl,_⟩:=z
   rfl
 . obtain⟨D,h',rs,R,hs,rfl,lb,hh,ok,q⟩:=z
   refine⟨_,qg (qv (KC h B (hr.mono (by decide)) (qJ hW GW hr (by rfl) (qb (jv 0) (qb (jv 1) qf))))),?_⟩
   refine⟨_,rfl,_,rfl,D,h',rs,R,hs,rfl,lb,hh,ok,λa H1 s1 i1=>⟨a,_,rfl,i1,?_,λH2 s2=>q H2 (s1.trans s2)⟩⟩
   refine yy λu hu=>?_
   obtain⟨z,hz,rfl⟩:=List.mem_map.mp hu
   exact ok z hz
end
end Rh
set_option Elab.async false
set_option linter.all false
set_option maxRecDepth 100000
set_option maxHeartbeats 4000000
namespace Rh
open PySem L2 PyProof.Rows MLab
abbrev Yn:Stmt:=top 61
abbrev ZB:Stmt:=top 62
structure K3 (H:Hp) (d:Addr) (rs:jt):Prop where
 at_:∃(o:Obj) (kvs:List (qE×V)),H d=some (.frz o (.dK kvs))/\kvs.map (·.1)=(rs.map (·.1)).map Sum.inr/\∀r∈rs,∃q,ja kvs (Sum.inr r.1:qE)=some (.ref q)/\H q=some (.tup (r.2.map V.str))
theorem K3.mono {H H':Hp} {d:Addr} {rs:jt} (h:K3 H d rs) (s:Same H H'):K3 H' d rs:=⟨let ⟨o,kvs,a,b,c⟩:=h.at_;⟨o,kvs,s _ _ a,b,λr hr=>let ⟨q,u,v⟩:=c r hr;⟨q,u,s _ _ v⟩⟩⟩
theorem K3.get {H:Hp} {d:Addr} {rs:jt} (h:K3 H d rs) (g:qB rs) {z:Str} (hz:z∈rs.map (·.1)):∃q,jW H d (.str z) (some (.ref q))/\H q=some (.tup ((jK rs z).map V.str)):=by
 obtain⟨o,kvs,a,b,c⟩:=h.at_
 obtain⟨r,hr,rfl⟩:=List.mem_map.mp hz
 obtain⟨q,u,v⟩:=c r hr
 refine⟨q,?_,by rw[YD g.nd hr];exact v⟩
 rw[<-u]
 exact .inl ⟨kvs,Sum.inr r.1,.inr ⟨o,a⟩,rfl,rfl⟩
theorem J8 {rs:jt} (g:qB rs) {z y:Str} (hz:z∈rs.map (·.1)) (hy:y∈jK rs z):y∈rs.map (·.1):=JY g.nd _ hz _ ((qF g hz).mp hy)
theorem YE {rs:jt} (g:qB rs) {z:Str} (hz:z∈rs.map (·.1)):(jK rs z).length<=40:=by
 obtain⟨r,hr,rfl⟩:=List.mem_map.mp hz
 rw[YD g.nd hr]
 exact g.two hr
def kn (rs:jt) (f:Str->Option Nat) (z:Str):List Nat:=(jK rs z).filterMap f
theorem Ws {rs:jt} {f:Str->Option Nat} {z:Str} {n:Nat}:n∈kn rs f z↔∃y∈jK rs z,f y=some n:=List.mem_filterMap
theorem Kw (rs:jt) (f:Str->Option Nat) (z:Str):(jK rs z).filterMap (λy=>(f y).map λn=>V.int (n:Nat))=Jg (kn rs f z):=by
 unfold Jg kn
 rw[List.map_filterMap]
theorem ZN {rs:jt} {f:Str->Option Nat} {z:Str} {n:Nat}:ZT (jK rs) f z n↔(∀j,j < n->j∈kn rs f z)/\n∉kn rs f z/\∀y∈jK rs z,f y=none->n∈kn rs f y:=by
 unfold ZT
 simp only[Ws]
 constructor
 . rintro⟨a,b,c⟩
   exact⟨a,λ⟨y,hy,e⟩=>b y hy e,c⟩
 . rintro⟨a,b,c⟩
   exact⟨a,λy hy e=>b ⟨y,hy,e⟩,c⟩
def gV (o:Option Nat):V:=(o.map λn=>V.int (n:Nat)).getD .non
theorem KL (f:Str->Option Nat) (ys:List Str):(ys.map λy=>gV (f y)).all JB=true:=by
 rw[List.all_map,List.all_eq_true]
 intro y _
 show JB (gV (f y))=true
 cases f y<;>rfl
theorem Mn (rs:jt) (f:Str->Option Nat) (z:Str) (n:Nat):ZM (.int (n:Nat)) ((jK rs z).map λy=>gV (f y))=decide (n∈kn rs f z):=by
 unfold ZM
 rw[List.any_map,Bool.eq_iff_iff,List.any_eq_true,decide_eq_true_iff,Ws]
 constructor
 . rintro⟨y,hy,e⟩
   refine⟨y,hy,?_⟩
   have e:yu (gV (f y)) (.int (n:Nat))=true:=e
   cases c:f y with
   | none=>rw[c]at e;exact absurd e (by simp [gV,yu])
   | some m=>
     rw[c]at e
     have e:(((m:Nat):Int)==((n:Nat):Int))=true:=e
     have:((m:Nat):Int)=((n:Nat):Int):=eq_of_beq e
     have:m=n:=by omega
     rw[this]
 . rintro⟨y,hy,e⟩
   refine⟨y,hy,?_⟩
   show yu (gV (f y)) (.int (n:Nat))=true
   rw[e]
   show (((n:Nat):Int)==((n:Nat):Int))=true
   simp
def XW:Sp:=λvs H Q _=>∃(d e:Addr) (rs:jt) (f:Str->Option Nat) (z:Str) (n:Nat),vs=[.ref d,.ref e,.str z,.int (n:Nat)]/\K3 H d rs/\qB rs/\z∈rs.map (·.1)/\qR (rs.map (·.1)) H e f/\n<=14/\
 ∀H' b,Same H H'->(b=true↔ZT (jK rs) f z n)->Q (.bl b) H'
section
variable {P:Program} {w:World} {K:PySem.W.Frag} {mg:Str->Option Value} {base:Heap}
theorem wU {rs:jt} {f:Str->Option Nat} {z:Str} {q e W:Addr} {H:Hp} {Q:Hp->Prop} (hW:H W=none) (hq:H q=some (.tup ((jK rs z).map V.str))) (nm:qR (rs.map (·.1)) H e f) (l40:(jK rs z).length<=40)
   (k:∀G,Same H G->G W=some (.lst (Jg (kn rs f z)))->Q G):zz (Gz K q) (QP 0) (tB (ur (qU 0) (qU 1))) (WT (qU 1) (qU 0)) W [none,some (.ref e)] H Q:=by
 refine vJ (K:=K) (a:=q) (xs:=jK rs z) (enc:=V.str) (out:=λy=>(f y).map λn=>V.int (n:Nat)) (rest:=[some (.ref e)]) hW hq (qp (by omega)) ?_ ?_ ?_
 . intro x hx G' s5 R kk
   refine⟨_,rfl,_,rfl,e,_,rfl,(nm.mono s5).get x,_,rfl,?_⟩
   exact kk G' λ_ _ h=>h
 . intro x hx v ev G' s5 R kk
   have g:=(nm.mono s5).get x
   rw[ev]at g
   exact⟨_,rfl,_,rfl,e,_,rfl,g,kk G' λ_ _ h=>h⟩
 . intro G s5 hG
   rw[Kw]at hG
   exact k G s5 hG
abbrev nLG:List Str:=["_law_leads_here","_law_numbers","_law_name","_law_number","_law_known","_law_other"]
abbrev N5:List Str:=["_law_leads_here","_law_numbers","_law_name","_law_number"]
theorem Rj:qr nLG N5 (qj Yn):=⟨rfl,rfl,rfl,by decide+kernel,rfl,by decide+kernel,by decide+kernel⟩
theorem xE {f:Addr} {fd:FuncData} (F:jM K "_law_gets" "_law_gets" Yn f fd) (B:QJ mg):qm P w K mg base qO 1 f fd N5 XW:=by
 refine F.okJ Rj (λvs H Q E h=>?_) (λcdv A outer s H vs Q E hr h=>?_)
 . obtain⟨d,e,rs,ff,z,n,rfl,_⟩:=h
   rfl
 . obtain⟨d,e,rs,ff,z,n,rfl,ld,good,hz,nm,n14,q⟩:=h
   have hu:=jV hr
   refine⟨_,qe (qw (i:=4) Rj.nd rfl (Or.inr rfl) (j3 (N':=["_law_other","_law_numbers"]) (ix:=[none,some 1]) (tt:=tB (ur (qU 0) (qU 1))) (te:=WT (qU 1) (qU 0)) rfl ⟨rfl,rfl,rfl,rfl,rfl⟩ (Z8 (qL hu (jv 0) (jv 2) (λ_ _=>rfl))) (λC s2 H2 fp pins=>
         ⟨qt (i:=0) (show (["_law_other","_law_numbers"]:List Str).Nodup by decide+kernel) rfl (Or.inl rfl),jy (Qa (JV hu (jv 0) (jv 1))),qL hu (jv 1) (jv 0) (λ_ _=>rfl)⟩)))
     (qe (qM (JW.pt (QO (qu (vj (Nat.lt_of_succ_lt hu)) (j3 (N':=["_law_lesser","_law_known"]) (ix:=[none,some 4]) (tt:=Y8 (zH (Nw K true) (qU 0) (qU 1))) (te:=qU 0) rfl ⟨rfl,rfl,rfl,rfl,rfl⟩ (jp (by rfl) B.rng (qb (jv 3) qf)) (λC s2 H2 fp pins=>
         ⟨qt (i:=0) (show (["_law_lesser","_law_known"]:List Str).Nodup by decide+kernel) rfl (Or.inl rfl),jy (qu QB (jv 0) (jv 1) (by with_unfolding_all rfl)),jv 0⟩)) (jD qf) (qy _))
         (Qh (qu Jf (jv 3) (jv 4) (by with_unfolding_all rfl))))) (qg (qv jG)) qz)
     (qe (jc PassesOwn.never rfl (Z8 (qL hu (jv 0) (jv 2) (λ_ _=>rfl))) (qt (i:=5) Rj.nd rfl (Or.inl rfl))
       (qg (qM (JW.pt (Qi (Qa (QH hu (jv 5) (jv 1))) (jX (qu QB (jv 3) (j3 (N':=["_law_one","_law_numbers"]) (ix:=[none,some 1]) (te:=yF (qU 1) (qU 0)) rfl ⟨rfl,rfl,rfl,rfl,rfl⟩ (Z8 (qL hu (jv 0) (jv 5) (λ_ _=>rfl))) (λC s2 H2 fp pins=>
         ⟨qt (i:=0) (show (["_law_one","_law_numbers"]:List Str).Nodup by decide+kernel) rfl (Or.inl rfl),jO,wn hu (jv 1) (jv 0) ⟨rfl,rfl,rfl,rfl⟩⟩)) (by with_unfolding_all rfl))))) (qg (qv jG)) qz)))
     (qg (qv jG)))),?_⟩
   obtain⟨q0,g0,hq0⟩:=ld.get good hz
   refine⟨_,rfl,_,rfl,d,_,rfl,g0,q0,rfl,⟨_,.of hq0⟩,λW hW=>?_⟩
   refine wU (K:=K) hW hq0 nm (YE good hz) λG1 s1 hW1=>?_
   refine⟨_,rfl,(n:Int),rfl,by omega,by omega,λU hU=>?_⟩
   refine WE (n:=n) (out:=λj=>if j∈kn rs ff z then none else some (V.int (j:Nat))) (rest:=[some (.ref W)]) hU (qp (by omega)) ?_ ?_ ?_
   . intro x hx G' s5 R kk
     refine⟨_,rfl,_,rfl,W,_,rfl,.inl (.of (s5 _ _ hW1)),rfl,JX _,_,rfl,?_⟩
     have:=kk G' λ_ _ h=>h
     show R (!ZM (.int (x:Nat)) (Jg (kn rs ff z))) G'
     rw[zb]
     by_cases c:x∈kn rs ff z
     . rw[if_pos c]at this
       rw[decide_eq_true c]
       exact this
     . rw[if_neg c]at this
       rw[decide_eq_false c]
       exact this
   . intro x hx v ev G' s5 R kk
     have:v=V.int (x:Nat):=by
       split at ev
       . cases ev
       . exact(Option.some.inj ev).symm
     subst this
     exact⟨_,rfl,kk G' λ_ _ h=>h⟩
   . intro G2 s2 hU2
     have s12:=s1.trans s2
     generalize hls:(List.range n).filterMap (λj=>if j∈kn rs ff z then none else some (V.int (j:Nat)))=ls at hU2
     refine⟨by show 0<=sizeLine;decide,λl0 hl0=>?_⟩
     have s0:Same G2 (upd G2 l0 (.lst [])):=qk hl0
     refine⟨U,l0,_,rfl,rfl,.of (s0 _ _ hU2),.of qd,_,rfl,?_⟩
     have s3:Same H (upd G2 l0 (.lst [])):=s12.trans s0
     have hW3:=s0 _ _ (s2 _ _ hW1)
     generalize upd G2 l0 (.lst [])=G3 at s0 s3 hW3
     have lsE:ls=[]↔∀j,j < n->j∈kn rs ff z:=by
       rw[<-hls,List.filterMap_eq_nil_iff]
       constructor
       . intro h j hj
         have:=h j (List.mem_range.mpr hj)
         by_cases c:j∈kn rs ff z
         . exact c
         . rw[if_neg c]at this;cases this
       . intro h j hj
         rw[if_pos (h j (List.mem_range.mp hj))]
     cases ls with
     | cons a ls=>
       refine jP (jP (q G3 false s3 ⟨λh=>(nomatch h),λh=>?_⟩))
       have:=lsE.mpr (ZN.mp h).1
       cases this
     | nil=>
       refine jf ⟨_,rfl,_,rfl,W,_,rfl,.inl (.of hW3),rfl,JX _,_,rfl,?_⟩
       have lo:=lsE.mp rfl
       by_cases c:n∈kn rs ff z
       . refine QE (show ZM (.int (n:Nat)) (Jg (kn rs ff z))=true by rw[zb];exact decide_eq_true c) (q G3 false s3 ⟨λh=>(nomatch h),λh=>absurd c (ZN.mp h).2.1⟩)
       . refine Qb (show ZM (.int (n:Nat)) (Jg (kn rs ff z))=false by rw[zb];exact decide_eq_false c) ?_
         obtain⟨q1,g1,hq1⟩:=(ld.mono s3).get good hz
         refine⟨_,rfl,_,rfl,d,_,rfl,g1,q1,rfl,⟨_,.of hq1⟩,?_⟩
         refine vB (K:=K) (a:=q1) (xs:=(jK rs z).map V.str) (λi σ' G=>∃v5,σ'=[some (.ref d),some (.ref e),some (.str z),some (.int (n:Nat)),some (.ref W),v5]/\Same G3 G/\∀y∈(jK rs z).take i,ff y=none->n∈kn rs ff y)
           ⟨_,rfl,λ_ _ h=>h,λy h=>(nomatch h)⟩ (λi σ' G _ ⟨_,_,s,_⟩=>.of (s _ _ hq1)) ?_ ?_
         . rintro i x σ' G hx ⟨v5,rfl,sG,hall⟩
           obtain⟨y,ey,hy,rfl⟩:=J1 hx
           have sA:=s3.trans sG
           have hyN:=J8 good hz hy
           have gy:=(nm.mono sA).get y
           have step:∀{G':Hp},Same G G'->(ff y=none->n∈kn rs ff y)->∃v5,[some (V.ref d),some (.ref e),some (.str z),some (.int (n:Nat)),some (.ref W),some (.str y)]=[some (.ref d),some (.ref e),some (.str z),some (.int (n:Nat)),some (.ref W),v5]/\Same G3 G'/\∀y∈(jK rs z).take (i+1),ff y=none->n∈kn rs ff y:=λ{G'} s' hy'=>by
             refine⟨_,rfl,sG.trans s',λu hu=>?_⟩
             rw[List.take_add_one,ey]at hu
             rcases List.mem_append.mp hu with hu | hu
             . exact hall u hu
             . have:u=y:=by simpa using hu
               rw[this];exact hy'
           refine⟨_,rfl,_,rfl,e,_,rfl,gy,_,rfl,?_⟩
           cases cy:ff y with
           | some m=>
             exact jf (jf (step (λ_ _ h=>h) λh=>by rw[cy]at h;cases h))
           | none=>
             obtain⟨q2,g2,hq2⟩:=(ld.mono sA).get good hyN
             refine jP ⟨_,rfl,_,rfl,_,rfl,d,_,rfl,g2,q2,rfl,⟨_,.of hq2⟩,λT hT=>?_⟩
             refine vJ (K:=K) (a:=q2) (xs:=jK rs y) (enc:=V.str) (out:=λu=>some (gV (ff u))) (rest:=[some (.ref e)]) hT hq2 (qp (by have:=YE good hyN;omega)) ?_ ?_ ?_
             . intro x hx G' s5 R kk
               exact kk G' λ_ _ h=>h
             . intro x hx v ev G' s5 R kk
               obtain rfl:=(Option.some.inj ev).symm
               have nmG:=(nm.mono sA).mono s5
               obtain⟨ke,he⟩:=nmG.isd
               exact⟨_,rfl,e,rfl,.inl ⟨ke,.inl he⟩,_,rfl,_,nmG.get x,kk G' λ_ _ h=>h⟩
             . intro G4 s4 hT4
               rw[show (λu=>some (gV (ff u)))=(some ∘ λu=>gV (ff u)) from rfl,List.filterMap_eq_map]at hT4
               refine⟨T,_,rfl,.inl (.of hT4),rfl,KL ff _,_,rfl,?_⟩
               show if (!ZM (.int (n:Nat)) ((jK rs y).map λu=>gV (ff u)))=true then _ else _
               rw[Mn]
               by_cases c2:n∈kn rs ff y
               . rw[decide_eq_true c2]
                 exact jf (step s4 λ_=>c2)
               . rw[decide_eq_false c2]
                 exact jP (q G4 false (sA.trans s4) ⟨λh=>(nomatch h),λh=>absurd ((ZN.mp h).2.2 y hy cy) c2⟩)
         . rintro σ' G ⟨v5,rfl,sG,hall⟩
           rw[List.length_map,List.take_of_length_le (Nat.le_refl _)]at hall
           exact q G true (s3.trans sG) ⟨λ_=>ZN.mpr ⟨lo,c,hall⟩,λ_=>rfl⟩
end
end Rh
set_option Elab.async false
set_option linter.all false
set_option maxRecDepth 100000
set_option maxHeartbeats 4000000
namespace Rh
open PySem L2 PyProof.Rows MLab
theorem kC {κ:Type} [DecidableEq κ] {kvs:List (κ×V)} {k:κ} {v u:V} (h:ja kvs k=some u):(jA kvs k v).map (·.1)=kvs.map (·.1):=by
 unfold jA
 have:(kvs.any λkv=>decide (kv.1=k))=true:=by rw[Qo,h];rfl
 rw[if_pos this,List.map_map]
 refine List.map_congr_left λx _=>?_
 show (if x.1=k then (x.1,v) else x).1=x.1
 split<;>rfl
theorem XL (ns:List Nat):∀m,(((List.range m).filter λk=>decide (k∈ns)).map λk=>2^k).sum=Rb.setN ((List.range m).filter λk=>decide (k∈ns))
 | 0=>rfl
 | m+1=>by
   have ih:=XL ns m
   have lt:Rb.setN ((List.range m).filter λk=>decide (k∈ns)) < 2^m:=Rb.setN_lt λx hx=>List.mem_range.mp (List.mem_filter.mp hx).1
   rw[List.range_succ,List.filter_append]
   by_cases c:m∈ns
   . have e:[m].filter (λk=>decide (k∈ns))=[m]:=by simp [c]
     rw[e,List.map_append,List.sum_append,ih,Rb.setN_snoc]
     have h2:=Nat.two_pow_add_eq_or_of_lt lt 1
     rw[Nat.mul_one]at h2
     show _+(2^m+0)=_
     rw[Nat.add_zero,Nat.add_comm,h2,Nat.or_comm]
   . have e:[m].filter (λk=>decide (k∈ns))=[]:=by simp [c]
     rw[e,List.append_nil]
     exact ih
theorem Ye {ns ms:List Nat} (h:∀x,x∈ns↔x∈ms):Rb.setN ns=Rb.setN ms:=Nat.eq_of_testBit_eq λk=>by rw[Rb.testBit_setN,Rb.testBit_setN,decide_eq_decide.mpr (h k)]
theorem GZ {ns:List Nat} (h:∀x∈ns,x < 16):(((List.range 16).filter λk=>decide (k∈ns)).map λk=>2^k).sum=Rb.setN ns:=by
 rw[XL]
 exact Ye λx=>by
   rw[List.mem_filter,List.mem_range,decide_eq_true_iff]
   exact⟨λz=>z.2,λz=>⟨h x z,z⟩⟩
def tW:Rb.W->List V
 | .num n=>[.str "number",.int (n:Nat)]
 | .edl b=>[.str "endless",.int (b:Nat)]
def wF (rs:jt) (f:Str->Option Nat) (z:Str):Rb.W:=match f z with
 | some n=>.num n
 | none=>.edl (Rb.setN (kn rs f z))
structure z5 (H:Hp) (D:Addr) (F:Str->Rb.W) (zs:List Str):Prop where
 at_:∃kvs:List (qE×V),H D=some (.dK kvs)/\kvs.map (·.1)=zs.map Sum.inr/\∀z∈zs,∃t,ja kvs (Sum.inr z:qE)=some (.ref t)/\H t=some (.tup (tW (F z)))
theorem z5.mono {H H':Hp} {D:Addr} {F:Str->Rb.W} {zs:List Str} (h:z5 H D F zs) (s:Same H H'):z5 H' D F zs:=⟨let ⟨kvs,a,b,c⟩:=h.at_;⟨kvs,s _ _ a,b,λz hz=>let ⟨t,u,v⟩:=c z hz;⟨t,u,s _ _ v⟩⟩⟩
theorem z5.get {H:Hp} {D:Addr} {F:Str->Rb.W} {zs:List Str} (h:z5 H D F zs) {z:Str} (hz:z∈zs):∃t,jW H D (.str z) (some (.ref t))/\H t=some (.tup (tW (F z))):=by
 obtain⟨kvs,a,b,c⟩:=h.at_
 obtain⟨t,u,v⟩:=c z hz
 refine⟨t,?_,v⟩
 rw[<-u]
 exact jW.k (k:=(Sum.inr z:qE)) a
theorem z5.new {H:Hp} {D t:Addr} {F:Str->Rb.W} {zs:List Str} {z:Str} (h:z5 H D F zs) (hz:z∉zs) (l:zs.length<=14) (ht:H t=some (.tup (tW (F z)))):∃o,QR H D (.str z) (.ref t) (upd H D o)/\z5 (upd H D o) D F (zs++[z]):=by
 obtain⟨kvs,a,b,c⟩:=h.at_
 have lk:kvs.length=zs.length:=by simpa using congrArg List.length b
 have new:ja kvs (Sum.inr z:qE)=none:=Q8 (by
   rw[b]
   intro m
   obtain⟨y,hy,e⟩:=List.mem_map.mp m
   cases e
   exact hz hy)
 have tD:∀{b:Addr} {xs:List V},H b=some (.tup xs)->b≠D:=λhb e=>by rw[e,a]at hb;cases hb
 refine⟨_,QR.k (k:=(Sum.inr z:qE)) a (qp (by omega)),⟨_,qd,?_,λy hy=>?_⟩⟩
 . rw[Je _ new,List.map_append,b,List.map_append]
   rfl
 . rcases List.mem_append.mp hy with hy | hy
   . obtain⟨t',u,v⟩:=c y hy
     refine⟨t',?_,by rw[qh (tD v)];exact v⟩
     rw[jS,if_neg (λq=>by cases q;exact hz hy)]
     exact u
   . have:y=z:=by simpa using hy
     subst this
     exact⟨t,by rw[jS,if_pos rfl],by rw[qh (tD ht)];exact ht⟩
theorem z5.over {H:Hp} {D t:Addr} {F F':Str->Rb.W} {zs:List Str} {z:Str} (h:z5 H D F' zs) (hz:z∈zs) (l:zs.length<=15) (ag:∀y∈zs,y≠z->F' y=F y) (ht:H t=some (.tup (tW (F z)))):∃o,QR H D (.str z) (.ref t) (upd H D o)/\z5 (upd H D o) D F zs:=by
 obtain⟨kvs,a,b,c⟩:=h.at_
 have lk:kvs.length=zs.length:=by simpa using congrArg List.length b
 obtain⟨t0,e0,_⟩:=c z hz
 have tD:∀{b:Addr} {xs:List V},H b=some (.tup xs)->b≠D:=λhb e=>by rw[e,a]at hb;cases hb
 refine⟨_,QR.k (k:=(Sum.inr z:qE)) a (qp (by omega)),⟨_,qd,by rw[kC e0];exact b,λy hy=>?_⟩⟩
 by_cases q:y=z
 . subst q
   exact⟨t,by rw[jS,if_pos rfl],by rw[qh (tD ht)];exact ht⟩
 . obtain⟨t',u,v⟩:=c y hy
   rw[ag y hy q]at v
   refine⟨t',?_,by rw[qh (tD v)];exact v⟩
   rw[jS,if_neg (λw=>q (Sum.inr.inj w))]
   exact u
theorem z5.congr {H:Hp} {D:Addr} {F F':Str->Rb.W} {zs:List Str} (h:z5 H D F zs) (e:∀z∈zs,F z=F' z):z5 H D F' zs:=⟨let ⟨kvs,a,b,c⟩:=h.at_;⟨kvs,a,b,λz hz=>by rw[<-e z hz];exact c z hz⟩⟩
theorem Ng {rs:jt} (g:qB rs) {f:Str->Option Nat} {x:Str} (hx:x∈rs.map (·.1)) (e:f x=none):¬∀j,j < (rs.map (·.1)).length->∃y∈jK rs x,f y=some j:=λh=>by
 have h1:=Jp (l:=List.range (rs.map (·.1)).length) (m:=(rs.map (·.1)).filterMap f) List.nodup_range λj hj=>by
   obtain⟨y,hy,ey⟩:=h j (List.mem_range.mp hj)
   exact List.mem_filterMap.mpr ⟨y,J8 g hx hy,ey⟩
 rw[List.length_range]at h1
 obtain⟨p,q,ep⟩:=List.append_of_mem hx
 rw[ep,List.filterMap_append,List.filterMap_cons,e,List.length_append,List.length_append,List.length_cons]at h1
 have h2:=List.length_filterMap_le f p
 have h3:=List.length_filterMap_le f q
 have h1:p.length+(q.length+1)<=(p.filterMap f).length+(q.filterMap f).length:=h1
 omega
theorem Mg {rs:jt} (g:qB rs) {num:Str->Option Nat} {stp:Str->Nat} (L:ZV (jK rs) (·∈rs.map (·.1)) num stp):ZV (Js rs) (·∈rs.map (·.1)) num stp where
 cl:=λ{x y} hx hy=>L.cl hx ((qF g hx).mpr hy)
 n1:=λ{x n m} hx e lt=>let ⟨y,hy,k⟩:=L.n1 hx e lt;⟨y,(qF g hx).mp hy,k⟩
 n2:=λ{x y n} hx e hy=>L.n2 hx e ((qF g hx).mpr hy)
 n3:=λ{x y n} hx e hy gt=>let ⟨z,hz,k⟩:=L.n3 hx e ((qF g hx).mpr hy) gt;⟨z,(qF g (L.cl hx ((qF g hx).mpr hy))).mp hz,k⟩
 n4:=λ{x y n m} hx e hy=>L.n4 hx e ((qF g hx).mpr hy)
 e:=λ{x m} hx e lo hi=>by
   obtain⟨y,hy,ey,ly⟩:=L.e hx e (λj hj=>let ⟨y,hy,k⟩:=lo j hj;⟨y,(qF g hx).mpr hy,k⟩) (λy hy=>hi y ((qF g hx).mp hy))
   exact⟨y,(qF g hx).mp hy,ey,λz hz=>ly z ((qF g (L.cl hx hy)).mpr hz)⟩
theorem NB {rs:jt} (g:qB rs) {f:Str->Option Nat} {stp:Str->Nat} (L:ZV (jK rs) (·∈rs.map (·.1)) f stp) {R:Rs Str} (all:All (Js rs) (rs.map (·.1)) 0 [] R) {z:Str} (hz:z∈rs.map (·.1)):wF rs f z=wT rs R z:=by
 have L':=qaq g (xY (JY g.nd) all)
 have eq:∀{y},y∈rs.map (·.1)->f y=qC R y:=λhy=>RL L L' hy
 unfold wF wT
 rw[eq hz]
 cases qC R z with
 | some n=>rfl
 | none=>
   show Rb.W.edl _=Rb.W.edl _
   congr 1
   refine Ye λx=>?_
   rw[Ws,Qm]
   constructor
   . rintro⟨y,hy,e⟩
     exact⟨y,(qF g hz).mp hy,by rw[<-eq (J8 g hz hy)];exact e⟩
   . rintro⟨y,hy,e⟩
     have hy':=(qF g hz).mpr hy
     exact⟨y,hy',by rw[eq (J8 g hz hy')];exact e⟩
def Gg:Sp:=λvs H Q _=>∃(l:Addr) (ps:List Addr) (rs:jt),vs=[.ref l]/\Qw H l ps rs/\
 ∀H' D F,Same H H'->H D=none->z5 H' D F (rs.map (·.1))->(∀R,All (Js rs) (rs.map (·.1)) 0 [] R->∀z∈rs.map (·.1),F z=wT rs R z)->(∀z∈rs.map (·.1),Rb.okW (F z))->Q (.ref D) H'
section
variable {P:Program} {w:World} {K:PySem.W.Frag} {mg:Str->Option Value} {base:Heap}
abbrev qaj:List Str:=["_law_rows_here","_law_leads_here","_law_numbers","_law_number","_law_more","_law_coming","_law_name","_law_worths_here","_law_here"]
theorem JL:qr qaj ["_law_rows_here"] (qj ZB):=⟨rfl,rfl,rfl,by decide+kernel,rfl,by decide+kernel,by decide+kernel⟩
theorem V3 {f fG:Addr} {fd fdG:FuncData} (F:jM K "_law_worths" "_law_worths" ZB f fd) (B:QJ mg) (T:QQ K mg) (hdi:mg "dict"=none) (hG:jq K mg "_law_gets" Yn N5 fG fdG):qm P w K mg base qO 2 f fd ["_law_rows_here"] Gg:=by
 have GG:qm P w K mg base qO 1 fG fdG N5 XW:=xE hG.fn B
 refine F.okJ JL (λvs H Q E h=>?_) (λcdv A outer s H vs Q E hr h=>?_)
 . obtain⟨l,ps,rs,rfl,_⟩:=h
   rfl
 . obtain⟨l,ps,rs,rfl,g,q⟩:=h
   have hu:=jV hr
   refine⟨_,qe (qw (i:=1) JL.nd rfl (Or.inr rfl) (RX (j4 (Up rfl) (by rfl) hdi boot_dict (qb (jv 0) qf))))
     (qe (qw (i:=2) JL.nd rfl (Or.inr rfl) jU)
     (qe (jc PassesOwn.never rfl (jp (by rfl) B.rng (qb (qA qP (by rfl) B.len boot_len (qb (jv 0) qf)) qf)) (qt (i:=3) JL.nd rfl (Or.inr rfl))
       (qe (qw (i:=4) JL.nd rfl (Or.inl rfl) jG)
       (qg (ZI PassesOwn.never (jd (jv 4))
         (qe (Qr (i:=5) (N':=["_law_name","_law_numbers","_law_leads_here","_law_number"]) (ix:=[none,some 2,some 1,some 3]) (tt:=GY (tB (UK (qU 0) (qU 1))) (tB (zj XW [] E0 (jI (qU 2) (jI (qU 1) (jI (qU 0) (jI (qU 3) Zd))))))) (te:=qU 0) JL.nd rfl (Or.inl rfl) rfl ⟨rfl,rfl,rfl,rfl,rfl⟩ (x8 (jv 1)) (λC s2 H2 fp pins=>
           ⟨qt (i:=0) (show (["_law_name","_law_numbers","_law_leads_here","_law_number"]:List Str).Nodup by decide+kernel) rfl (Or.inl rfl),jy (JW.pt (Qi (Qa (QH hu (jv 0) (jv 1))) (jX (jd (qJ hG GG hr (by rfl) (qb (jv 2) (qb (jv 1) (qb (jv 0) (qb (jv 3) qf))))))))),jv 0⟩))
         (qe (qw (i:=4) JL.nd rfl (Or.inl rfl) (ju (vj (Nat.lt_of_succ_lt hu)) (jv 5) (jD qf) (qy _)))
         (qg (jc PassesOwn.never rfl (qH (JR U0 (jv 5) ZK (ZJ qi))) (qt (i:=6) JL.nd rfl (Or.inl rfl)) (qg (je hu (jv 2) (jv 6) (jv 3) rfl))))))))))
     (qe (qw (i:=7) JL.nd rfl (Or.inl rfl) jU)
     (qe (jc PassesOwn.never rfl (x8 (jv 1)) (qt (i:=6) JL.nd rfl (Or.inl rfl))
       (qe (qw (i:=8) JL.nd rfl (Or.inr rfl) (j3 (N':=["_law_other","_law_numbers"]) (ix:=[none,some 2]) (tt:=tB (ur (qU 0) (qU 1))) (te:=WT (qU 1) (qU 0)) rfl ⟨rfl,rfl,rfl,rfl,rfl⟩ (Z8 (qL hu (jv 1) (jv 6) (λ_ _=>rfl))) (λC s2 H2 fp pins=>
         ⟨qt (i:=0) (show (["_law_other","_law_numbers"]:List Str).Nodup by decide+kernel) rfl (Or.inl rfl),jy (Qa (JV hu (jv 0) (jv 1))),qL hu (jv 1) (jv 0) (λ_ _=>rfl)⟩)))
       (qe (je hu (jv 7) (jv 6) (jC (qb qI (qb (qA (ze rfl) (by rfl) T.sum boot_sum (qb (j3 (N':=["_law_k","_law_here"]) (ix:=[none,some 8]) (tt:=Y8 (zH (Nw K false) (qU 0) (qU 1))) (te:=zH (rI K5 λi j=>.int (i*2^j.toNat)) (tC (.int 1)) (qU 0)) rfl ⟨rfl,rfl,rfl,rfl,rfl⟩ (jp (by rfl) B.rng (qb qi qf)) (λC s2 H2 fp pins=>
         ⟨qt (i:=0) (show (["_law_k","_law_here"]:List Str).Nodup by decide+kernel) rfl (Or.inl rfl),jy (qu Jf (jv 0) (jv 1) (by with_unfolding_all rfl)),qN V1 qi (jv 0)⟩)) qf)) qf))) rfl)
       (qg (qM (Qa (JV hu (jv 6) (jv 2))) (qg (je hu (jv 7) (jv 6) (jC (qb qI (qb (qL hu (jv 2) (jv 6) (λ_ _=>rfl)) qf))) rfl)) qz)))))
     (qg (qv (jv 7))))))),?_⟩
   have good:=g.good
   have le14:=g.le
   have nd:=good.nd
   refine⟨_,rfl,RC (wQ g λd kvs hd ek hv=>⟨d,kvs,rfl,qd,λo=>?_⟩)⟩
   rw[jr]
   have s1:Same H (upd H d (.frz o (.dK kvs))):=qk hd
   have hd1:upd H d (.frz o (.dK kvs)) d=some (.frz o (.dK kvs)):=qd
   generalize upd H d (.frz o (.dK kvs))=H1 at s1 hd1
   have ld:K3 H1 d rs:=⟨o,kvs,hd1,ek,λr hr=>let ⟨t,a,b⟩:=hv r hr;⟨t,a,s1 _ _ b⟩⟩
   intro e he
   have s2:Same H1 (upd H1 e (.dK [])):=qk he
   have he2:upd H1 e (.dK []) e=some (.dK []):=qd
   have he0:H e=none:=j2 s1 he
   have nde:d≠e:=λz=>by rw[<-z,hd1]at he;cases he
   generalize upd H1 e (.dK [])=H2 at s2 he2
   have ldG:∀{G:Hp},Fr H2 e G->K3 G d rs:=λfr=>by
     refine⟨o,kvs,fr _ _ (s2 _ _ hd1) nde,ek,λr hr=>?_⟩
     obtain⟨t,a,b⟩:=hv r hr
     have b2:=s2 _ _ (s1 _ _ b)
     exact⟨t,a,fr _ _ b2 (λz=>by rw[z,he2]at b2;cases b2)⟩
   have hdG:∀{G:Hp},Fr H2 e G->G d=some (.frz o (.dK kvs)):=λfr=>fr _ _ (s2 _ _ hd1) nde
   have lN:(rs.map (·.1)).length=rs.length:=List.length_map ..
   have s02:Same H H2:=s1.trans s2
   have lps:ps.length=rs.length:=g.rows.1
   refine⟨_,rfl,l,_,rfl,.inl (.of (s02 _ _ g.at_)),_,rfl,?_,?_,?_⟩
   . omega
   . rw[List.length_map,lps];omega
   refine QI (λi σ G=>∃(v3 v4 v5 v6:Option V) (R1:Rs Str),σ=[some (.ref l),some (.ref d),some (.ref e),v3,v4,v5,v6,none,none]/\Fr H2 e G/\qR (rs.map (·.1)) G e (qC R1)/\Pt (jK rs) (rs.map (·.1)) R1 i)
     ⟨none,none,none,none,[],rfl,Fr.refl,⟨[],he2,λz=>rfl,List.nodup_nil,λk h=>(nomatch h)⟩,Pt.nil⟩ ?_ ?_
   . rintro i σ G hi ⟨v3,v4,v5,v6,R0,rfl,fr0,nm0,pt0⟩
     rw[Int.zero_add]
     have hi:i < rs.length:=by
       rw[List.length_map,lps]at hi
       simpa using hi
     refine Zv (λσ G=>∃(v5 v6:Option V) (R1:Rs Str) (more:Bool),σ=[some (.ref l),some (.ref d),some (.ref e),some (.int (i:Nat)),some (.bl more),v5,v6,none,none]/\Fr H2 e G/\qR (rs.map (·.1)) G e (qC R1)/\Pt (jK rs) (rs.map (·.1)) R1 i/\
         (more=false->∀x∈rs.map (·.1),qC R1 x=none->¬ZT (jK rs) (qC R1) x i))
       (λσ G=>2*JD (rs.map (·.1)) G e+(match σ with | [_,_,_,_,some (.bl true),_,_,_,_]=>1 | _=>0))
       ⟨v5,v6,R0,true,rfl,fr0,nm0,pt0,λz=>(nomatch z)⟩ ?_ ?_
     . rintro σ G ⟨v5,v6,R1,more,rfl,fr,nm,pt,fin⟩
       refine⟨_,rfl,more,rfl,?_⟩
       cases more with
       | false=>exact jf ⟨_,_,_,_,R1,rfl,fr,nm,pt.next (fin rfl)⟩
       | true=>
         refine jP ⟨_,rfl,d,o,kvs,rs.map (·.1),rfl,hdG fr,ek,λW hW=>?_⟩
         refine KU (zs:=rs.map (·.1)) (λj σ'' G1=>∃(v0:Option V) (cs:List Str),σ''=[v0,some (.ref e),some (.ref d),some (.int (i:Nat))]/\Same G G1/\G1 W=some (.lst (cs.map V.str))/\cs.length<=j/\(∀c∈cs,c∈rs.map (·.1)/\qC R1 c=none/\ZT (jK rs) (qC R1) c i)/\(cs=[]->∀z∈(rs.map (·.1)).take j,qC R1 z=none->¬ZT (jK rs) (qC R1) z i))
           ⟨none,[],rfl,qk hW,qd,Nat.le_refl _,λc h=>(nomatch h),λ_ z h=>(nomatch h)⟩ (λj σ'' G1 _ ⟨_,_,_,s,_⟩=>s _ _ (hdG fr)) ?_ ?_
         . rintro j z σ'' G1 ez ⟨v0,cs,rfl,sG,hWG,lc,hc,hn⟩
           have hz:z∈rs.map (·.1):=List.mem_of_getElem? ez
           have hj:=(List.getElem?_eq_some_iff.mp ez).1
           have more':∀{G2:Hp},Same G1 G2->(qC R1 z=none->¬ZT (jK rs) (qC R1) z i)->∃(v0:Option V) (cs:List Str),[some (V.str z),some (.ref e),some (.ref d),some (.int (i:Nat))]=[v0,some (.ref e),some (.ref d),some (.int (i:Nat))]/\Same G G2/\G2 W=some (.lst (cs.map V.str))/\cs.length<=j+1/\(∀c∈cs,c∈rs.map (·.1)/\qC R1 c=none/\ZT (jK rs) (qC R1) c i)/\(cs=[]->∀z∈(rs.map (·.1)).take (j+1),qC R1 z=none->¬ZT (jK rs) (qC R1) z i):=λ{G2} s' no=>by
             refine⟨_,cs,rfl,sG.trans s',s' _ _ hWG,by omega,hc,λe0 y hy=>?_⟩
             rw[List.take_add_one,ez]at hy
             rcases List.mem_append.mp hy with hy | hy
             . exact hn e0 y hy
             . have:y=z:=by simpa using hy
               rw[this];exact no
           refine⟨_,rfl,_,rfl,e,_,rfl,(nm.mono sG).get z,_,rfl,?_⟩
           cases cz:qC R1 z with
           | some m=>exact jf (jf (more' (λ_ _ h=>h) λh=>by rw[cz]at h;cases h))
           | none=>
             refine jP ⟨_,rfl,_,rfl,_,rfl,_,rfl,d,e,rs,qC R1,z,i,rfl,(ldG fr).mono sG,good,hz,nm.mono sG,by omega,λG2 b s' hb=>⟨b,rfl,?_⟩⟩
             cases b with
             | false=>exact jf (more' s' λ_ gt=>absurd (hb.mpr gt) (by simp))
             | true=>
               refine jP ⟨_,rfl,_,s' _ _ hWG,by rw[List.length_map];exact qp (by omega),_,cs++[z],rfl,Same.upd (sG.trans s') hW,by rw[List.map_append];exact qd,by rw[List.length_append];exact Nat.succ_le_succ lc,λc hcc=>?_,λe0=>?_⟩
               . rcases List.mem_append.mp hcc with hcc | hcc
                 . exact hc c hcc
                 . have:c=z:=by simpa using hcc
                   rw[this]
                   exact⟨hz,cz,hb.mp rfl⟩
               . simp at e0
         . rintro σ'' G1 ⟨v0,cs,rfl,sG,hWG,lc,hc,hn⟩
           rw[List.take_of_length_le (Nat.le_refl _)]at hn
           refine⟨_,rfl,by show 0<=sizeLine;decide,λl0 hl0=>?_⟩
           have s3:Same G1 (upd G1 l0 (.lst [])):=qk hl0
           refine⟨W,l0,_,rfl,rfl,.of (s3 _ _ hWG),.of qd,?_⟩
           have sA:Same G (upd G1 l0 (.lst [])):=sG.trans s3
           have hWA:=s3 _ _ hWG
           generalize upd G1 l0 (.lst [])=G2 at sA hWA
           refine⟨_,rfl,_,rfl,W,_,rfl,.of hWA,λlc' hlc=>?_⟩
           have ecut:Y0 (cs.map V.str) none (some (1:Int))=(cs.take 1).map V.str:=by
             unfold Y0
             rw[HT.sIx_none,show (1:Int)=((1:Nat):Int) from rfl,HT.sIx_nat,List.length_map]
             cases cs with
             | nil=>rfl
             | cons a t=>simp
           rw[ecut]
           have s4:Same G2 (upd G2 lc' (.lst ((cs.take 1).map V.str))):=qk hlc
           have hlc4:upd G2 lc' (.lst ((cs.take 1).map V.str)) lc'=some (.lst ((cs.take 1).map V.str)):=qd
           generalize upd G2 lc' (.lst ((cs.take 1).map V.str))=G3 at s4 hlc4
           have sB:Same G G3:=sA.trans s4
           have frB:Fr H2 e G3:=fr.same sB
           have nmB:=nm.mono sB
           obtain⟨ke,hke⟩:=nm.isd
           have nle:lc'≠e:=λz=>by rw[z,sA _ _ hke]at hlc;cases hlc
           refine⟨lc',rfl,⟨_,.of hlc4⟩,?_⟩
           have mu0:JD (rs.map (·.1)) G e=QX rs (qC R1):=nm.bare
           cases cs with
           | nil=>
             refine jm (K:=K) (a:=lc') (xs:=[]) (λj σ' G'=>∃v6,σ'=[some (.ref l),some (.ref d),some (.ref e),some (.int (i:Nat)),some (.bl false),some (.ref W),v6,none,none]/\Fr H2 e G'/\qR (rs.map (·.1)) G' e (qC R1)/\G' lc'=some (.lst [])) ⟨v6,rfl,frB,nmB,hlc4⟩ (λj σ' G' _ ⟨_,_,_,_,h⟩=>.of h) (λj x σ' G' hx=>(nomatch hx)) ?_
             rintro σ' G' ⟨v6',rfl,fr',nm',_⟩
             refine⟨⟨_,_,R1,false,rfl,fr',nm',pt,λ_=>hn rfl⟩,?_⟩
             show 2*JD (rs.map (·.1)) G' e+0 < 2*JD (rs.map (·.1)) G e+1
             rw[mu0,nm'.bare]
             omega
           | cons c cs=>
             obtain⟨hcN,hcn,hcg⟩:=hc c List.mem_cons_self
             have pt':Pt (jK rs) (rs.map (·.1)) (R1++[(i,[c])]) i:=pt.one λx hx=>by
               have:x=c:=by simpa using hx
               subst this
               exact⟨hcN,hcn,hcg⟩
             have ltb:QX rs (qC (R1++[(i,[c])])) < QX rs (qC R1):=WG (λz hz=>by
               have:z=c:=by simpa using hz
               subst this
               exact⟨hcN,hcn⟩) (by simp)
             refine jm (K:=K) (a:=lc') (xs:=[V.str c]) (λj σ' G'=>∃v6,σ'=[some (.ref l),some (.ref d),some (.ref e),some (.int (i:Nat)),some (.bl true),some (.ref W),v6,none,none]/\Fr H2 e G'/\(j=0->qR (rs.map (·.1)) G' e (qC R1))/\(j=1->qR (rs.map (·.1)) G' e (qC (R1++[(i,[c])])))/\G' lc'=some (.lst [V.str c])) ⟨v6,rfl,frB,λ_=>nmB,λh=>absurd h (by decide),hlc4⟩ (λj σ' G' _ ⟨_,_,_,_,_,h⟩=>.of h) ?_ ?_
             . rintro j x σ' G' hx ⟨v6',rfl,fr',n0,n1,hl'⟩
               have j0:j=0:=by
                 have:=(List.getElem?_eq_some_iff.mp hx).1
                 simpa using this
               subst j0
               obtain rfl:V.str c=x:=Option.some.inj hx
               obtain⟨H4,put,nm4,o4,e4⟩:=(n0 rfl).put (n:=i) hcN hcn (by rw[lN];exact le14)
               refine⟨_,rfl,_,rfl,_,rfl,e,H4,rfl,put,_,rfl,by rw[e4];exact fr'.at_d,λh=>absurd h (by decide),λ_=>nm4.congr λy=>?_,by rw[e4,qh nle];exact hl'⟩
               by_cases ey:y=c
               . subst ey
                 rw[if_pos rfl]
                 exact(wK hcn (by simp)).symm
               . rw[if_neg ey,Jh]
                 cases qC R1 y with
                 | some m=>rfl
                 | none=>
                   show none=if y∈[c] then some i else none
                   rw[if_neg (by simp [ey])]
             . rintro σ' G' ⟨v6',rfl,fr',n0,n1,hl'⟩
               have nm':=n1 rfl
               refine⟨⟨_,_,_,true,rfl,fr',nm',pt',λh=>(nomatch h)⟩,?_⟩
               show 2*JD (rs.map (·.1)) G' e+1 < 2*JD (rs.map (·.1)) G e+1
               rw[mu0,nm'.bare]
               omega
     . rintro σ G Q1 Q2 kk ⟨x,ex,b,eb,q1⟩
       exact⟨x,ex,b,eb,kk _ _ q1⟩
   rintro σ G ⟨v3,v4,v5,v6,R1,rfl,fr,nm,pt⟩
   rw[List.length_map,lps,Int.toNat_natCast,<-lN]at pt
   have L:ZV (jK rs) (·∈rs.map (·.1)) (qC R1) (J4 R1):=pt.lab (λx hx y hy=>J8 good hx hy) λx hx ex=>Ng good hx ex
   have small:∀z∈rs.map (·.1),∀x∈kn rs (qC R1) z,x < 16:=λz hz x hx=>by
     obtain⟨y,hy,ey⟩:=Ws.mp hx
     have hyN:=J8 good hz hy
     have L2:ZV (Js rs) (·∈rs.map (·.1)) (qC R1) (J4 R1):=Mg good L
     have:=Z3 good L2 hyN ey
     omega
   have okF:∀z∈rs.map (·.1),Rb.okW (wF rs (qC R1) z):=λz hz=>by
     unfold wF
     cases cz:qC R1 z with
     | some n=>
       have:=Z3 good (Mg good L) hz cz
       show n < 16
       omega
     | none=>exact Rb.setN_lt (m:=16) (small z hz)
   have sHG:Same H G:=λb u hb=>fr _ _ (s02 _ _ hb) (qo hb he0)
   intro D hD
   have hD0:H D=none:=j2 sHG hD
   have sD:Same G (upd G D (.dK [])):=qk hD
   have hDD:upd G D (.dK []) D=some (.dK []):=qd
   generalize upd G D (.dK [])=G1 at sD hDD
   have ld1:=(ldG fr).mono sD
   have hd1':=sD _ _ (hdG fr)
   have nm1:=nm.mono sD
   have sH1:=sHG.trans sD
   refine⟨_,rfl,d,o,kvs,rs.map (·.1),rfl,hd1',ek,?_⟩
   have nDd:d≠D:=λz=>by rw[z,hDD]at hd1';cases hd1'
   obtain⟨ke,hke⟩:=nm1.isd
   have nDe:e≠D:=λz=>by
     obtain⟨k0,h0⟩:=nm.isd
     rw[z,hD]at h0;cases h0
   refine KM (zs:=rs.map (·.1)) (λi σ' G2=>∃(v6 v8:Option V),σ'=[some (.ref l),some (.ref d),some (.ref e),v3,v4,v5,v6,some (.ref D),v8]/\Fr G1 D G2/\z5 G2 D (wF rs (qC R1)) ((rs.map (·.1)).take i))
     ⟨v6,none,rfl,Fr.refl,⟨[],hDD,rfl,λz h=>(nomatch h)⟩⟩ (λi σ' G2 _ ⟨_,_,_,f,_⟩=>f _ _ hd1' nDd) ?_ ?_
   . rintro i z σ' G2 ez ⟨v6',v8,rfl,fr2,wt⟩
     have hz:z∈rs.map (·.1):=List.mem_of_getElem? ez
     have hi:=(List.getElem?_eq_some_iff.mp ez).1
     have nz:z∉(rs.map (·.1)).take i:=λm=>QG nd ez (List.mem_map.mpr ⟨z,m,rfl⟩)
     have ld2:K3 G2 d rs:=by
       obtain⟨o',kvs',a,b,c⟩:=ld1.at_
       refine⟨o',kvs',fr2 _ _ a nDd,b,λr hr=>?_⟩
       obtain⟨t,u,v⟩:=c r hr
       exact⟨t,u,fr2 _ _ v (λq=>by rw[q,hDD]at v;cases v)⟩
     have nm2:qR (rs.map (·.1)) G2 e (qC R1):=nm1.fr fr2 nDe
     obtain⟨q0,g0,hq0⟩:=ld2.get good hz
     refine⟨_,rfl,_,rfl,d,_,rfl,g0,q0,rfl,⟨_,.of hq0⟩,λW hW=>?_⟩
     refine wU (K:=K) hW hq0 nm2 (YE good hz) λG3 s3 hW3=>?_
     refine⟨16,rfl,by decide,by decide,λU hU=>?_⟩
     refine WE (n:=16) (out:=λj=>if decide (j∈kn rs (qC R1) z)=true then some (V.int ((2^j:Nat):Int)) else none) (rest:=[some (.ref W)]) hU (by decide) ?_ ?_ ?_
     . intro x hx G' s5 R kk
       refine⟨_,rfl,_,rfl,W,_,rfl,.inl (.of (s5 _ _ hW3)),rfl,JX _,_,rfl,?_⟩
       have:=kk G' λ_ _ h=>h
       show R (ZM (.int (x:Nat)) (Jg (kn rs (qC R1) z))) G'
       rw[zb]
       by_cases c:x∈kn rs (qC R1) z
       . rw[if_pos (decide_eq_true c)]at this
         rw[decide_eq_true c]
         exact this
       . rw[if_neg (by simp [c])]at this
         rw[decide_eq_false c]
         exact this
     . intro x hx v ev G' s5 R kk
       have:v=V.int ((2^x:Nat):Int):=by
         split at ev
         . exact(Option.some.inj ev).symm
         . cases ev
       subst this
       refine⟨_,rfl,1,(x:Int),rfl,rfl,⟨by omega,by omega,by decide⟩,?_⟩
       have e9:(1:Int)*2^ ((x:Int).toNat)=((2^x:Nat):Int):=by
         rw[Int.one_mul,Int.toNat_natCast]
         exact(Int.natCast_pow 2 x).symm
       show R (.int ((1:Int)*2^ ((x:Int).toNat))) G'
       rw[e9]
       exact kk G' λ_ _ h=>h
     . intro G4 s4 hU4
       have eU:(List.range 16).filterMap (λj=>if decide (j∈kn rs (qC R1) z)=true then some (V.int ((2^j:Nat):Int)) else none)=(((List.range 16).filter λk=>decide (k∈kn rs (qC R1) z)).map λk=>2^k).map λn=>V.int ((n:Nat):Int):=by
         generalize List.range 16=rg
         induction rg with
         | nil=>rfl
         | cons a rg ih=>
           rw[List.filterMap_cons,List.filter_cons]
           by_cases c:decide (a∈kn rs (qC R1) z)=true
           . rw[if_pos c,if_pos c,List.map_cons,List.map_cons,<-ih]
           . rw[if_neg c,if_neg c,<-ih]
       rw[eU]at hU4
       have es:=GZ (small z hz)
       have lt:Rb.setN (kn rs (qC R1) z) < 2^16:=Rb.setN_lt (small z hz)
       refine⟨U,_,rfl,.of hU4,by rw[es];exact Nat.lt_trans lt (by decide),?_⟩
       rw[es]
       have s34:Same G2 G4:=s3.trans s4
       refine⟨by show 2<=sizeLine;decide,λt ht=>?_⟩
       have s5:Same G2 (upd G4 t (.tup [.str "endless",.int (Rb.setN (kn rs (qC R1) z):Nat)])):=s34.trans (qk ht)
       have ht5:upd G4 t (.tup [.str "endless",.int (Rb.setN (kn rs (qC R1) z):Nat)]) t=some (.tup [.str "endless",.int (Rb.setN (kn rs (qC R1) z):Nat)]):=qd
       generalize upd G4 t (.tup [.str "endless",.int (Rb.setN (kn rs (qC R1) z):Nat)])=G5 at s5 ht5
       have lz:((rs.map (·.1)).take i).length<=14:=by rw[List.length_take,lN];omega
       have wt':z5 G5 D (λy=>if y=z then .edl (Rb.setN (kn rs (qC R1) z)) else wF rs (qC R1) y) ((rs.map (·.1)).take i):=(wt.mono s5).congr λy hy=>by show _=if y=z then _ else _;rw[if_neg (λq:y=z=>nz (by rw[<-q];exact hy))]
       obtain⟨o6,put6,wt6⟩:=wt'.new nz lz (t:=t) (by rw[if_pos rfl];exact ht5)
       refine⟨_,rfl,_,rfl,D,_,rfl,put6,?_⟩
       have fr6:Fr G1 D (upd G5 D o6):=(fr2.same s5).at_d
       have nm6:qR (rs.map (·.1)) (upd G5 D o6) e (qC R1):=nm1.fr fr6 nDe
       have etk:(rs.map (·.1)).take (i+1)=(rs.map (·.1)).take i++[z]:=by rw[List.take_add_one,ez];rfl
       generalize upd G5 D o6=G6 at wt6 fr6 nm6
       have gz:=nm6.get z
       refine⟨_,rfl,_,rfl,e,_,rfl,gz,_,rfl,?_⟩
       cases cz:qC R1 z with
       | none=>
         refine jf ⟨_,_,rfl,fr6,?_⟩
         rw[etk]
         refine wt6.congr λy hy=>?_
         by_cases q:y=z
         . subst q
           rw[if_pos rfl]
           unfold wF
           rw[cz]
         . rw[if_neg q]
       | some m=>
         rw[cz]at gz
         refine jP ⟨_,rfl,_,rfl,e,_,rfl,gz,by show 2<=sizeLine;decide,λt2 ht2=>?_⟩
         have s7:Same G6 (upd G6 t2 (.tup [.str "number",.int (m:Nat)])):=qk ht2
         have ht7:upd G6 t2 (.tup [.str "number",.int (m:Nat)]) t2=some (.tup (tW (wF rs (qC R1) z))):=by
           rw[qd]
           unfold wF
           rw[cz]
           rfl
         generalize upd G6 t2 (.tup [.str "number",.int (m:Nat)])=G7 at s7 ht7
         obtain⟨o8,put8,wt8⟩:=(wt6.mono s7).over (F:=wF rs (qC R1)) (z:=z) (by simp) (by rw[List.length_append,List.length_singleton];omega) (λy _ q=>if_neg q) ht7
         refine⟨_,rfl,_,rfl,D,_,rfl,put8,_,_,rfl,(fr6.same s7).at_d,?_⟩
         rw[etk]
         exact wt8
   . rintro σ' G2 ⟨v6',v8,rfl,fr2,wt⟩
     rw[List.take_of_length_le (Nat.le_refl _)]at wt
     exact⟨_,rfl,q G2 D _ (λb u hb=>fr2 _ _ (sH1 _ _ hb) (qo hb hD0)) hD0 wt (λR all z hz=>NB good L all hz) okF⟩
end
end Rh
set_option Elab.async false
set_option linter.all false
set_option maxRecDepth 100000
set_option maxHeartbeats 4000000
namespace Rh
open PySem L2 PyProof.Rows MLab Rb
abbrev Wb:Stmt:=top 63
abbrev MG:Stmt:=top 64
theorem wN:decide (V.str (Str.ofString "endless")=V.str (Str.ofString "number"))=false:=by decide+kernel
theorem wE:decide (V.str (Str.ofString "number")=V.str (Str.ofString "endless"))=false:=by decide+kernel
theorem vT {K:PySem.W.Frag} {H:Hp}:∀ns:List Nat,DVs K H (Jg ns) (ns.map λn=>PyData.int (n:Nat))
 | []=>.nil
 | n::ns=>.cons (.int _) (vT ns)
theorem vG:∀ns:List Nat,PyData.canLayAll0 (ns.map λn=>PyData.int (n:Nat))=true
 | []=>rfl
 | n::ns=>by
   rw[List.map_cons,PyData.canLayAll0,vG ns]
   rfl
theorem Xp:∀ns:List Nat,PyData.depthAll (ns.map λn=>PyData.int (n:Nat))<=1
 | []=>by decide
 | n::ns=>by
   rw[List.map_cons]
   have:=Xp ns
   simp only[PyData.depthAll,PyData.depth]
   omega
theorem uD (ns:List Nat):PySem.SeqAt.shaped (.list (ns.map λn=>PyData.int (n:Nat)))=true:=by
 unfold PySem.SeqAt.shaped
 rw[Bool.and_eq_true]
 refine⟨vG ns,decide_eq_true ?_⟩
 have:=Xp ns
 simp only[PyData.depth]
 omega
theorem KO (ns:List Nat):PyData.eqv (.list (ns.map λn=>PyData.int (n:Nat))) (.list [])=decide (ns=[]):=by
 cases ns with
 | nil=>decide
 | cons n ns=>
   rw[List.map_cons,decide_eq_false (by simp)]
   simp [PyData.eqv,PyData.eqvAll]
theorem yS (ws:List W):(Qx ws).length<=ws.length:=List.length_filterMap_le _ _
theorem uE {ws:List W} (h:∀u∈ws,okW u):∀b∈Qx ws,b < 65536:=by
 intro x hx
 obtain⟨u,hu,e⟩:=List.mem_filterMap.mp hx
 cases u with
 | num n=>cases e
 | edl b=>cases e;exact h _ hu
theorem UI (u:Rb.W):tW u=[.str (j1 u),.int (Zw u:Nat)]:=by cases u<;>rfl
def Tl (H:Hp) (ps:List Addr) (ws:List Rb.W):Prop:=ps.length=ws.length/\∀(i:Nat) (p:Addr) (u:Rb.W),ps[i]?=some p->ws[i]?=some u->H p=some (.tup (tW u))
theorem R7 (p:Nat->Bool) (l:List Nat):l.filterMap (λj=>if p j=true then some (V.int ((2^j:Nat):Int)) else none)=((l.filter p).map λk=>2^k).map λn=>V.int ((n:Nat):Int):=by
 induction l with
 | nil=>rfl
 | cons a l ih=>
   rw[List.filterMap_cons,List.filter_cons]
   by_cases c:p a=true
   . rw[if_pos c,if_pos c,List.map_cons,List.map_cons,<-ih]
   . rw[if_neg c,if_neg c,<-ih]
theorem yG {b n:Nat} (hn:n < 16):(((List.range 16).filter λk=>b.testBit (k^^^n)).map λk=>2^k).sum=turnN b n 16:=by
 have e:(List.range 16).filter (λk=>b.testBit (k^^^n))=(List.range 16).filter λk=>decide (k∈(List.range 16).filter λk=>b.testBit (k^^^n)):=List.filter_congr λk hk=>by
   rw[Bool.eq_iff_iff,decide_eq_true_iff,List.mem_filter]
   exact⟨λh=>⟨hk,h⟩,λh=>h.2⟩
 rw[e,XL,<-e]
 refine Nat.eq_of_testBit_eq λk=>?_
 rw[testBit_setN,j5 hn,Bool.eq_iff_iff,decide_eq_true_iff,Bool.and_eq_true,decide_eq_true_iff,List.mem_filter,List.mem_range]
def Gd:Sp:=λvs H Q _=>∃(l:Addr) (ps:List Addr) (ws:List Rb.W),vs=[.ref l]/\H l=some (.lst (ps.map V.ref))/\Tl H ps ws/\(∀u∈ws,okW u)/\ws.length<=8/\∀H' p,Same H H'->H' p=some (.tup (tW (Qg ws)))->Q (.ref p) H'
def NO:Sp:=λvs H Q _=>∃(t:Addr) (u:Rb.W),vs=[.ref t]/\H t=some (.tup (tW u))/\∀H',Same H H'->Q (.str (Zn u)) H'
section
variable {P:Program} {w:World} {K:PySem.W.Frag} {mg:Str->Option Value} {base:Heap}
theorem J2:qr ["_law_worths_here","_law_number","_law_word","_law_one","_law_sets"] ["_law_worths_here"] (qj Wb):=⟨rfl,rfl,rfl,by decide+kernel,rfl,by decide+kernel,by decide+kernel⟩
theorem xw {f:Addr} {fd:FuncData} (F:jM K "_law_total" "_law_total" Wb f fd) (B:QJ mg) (T:QQ K mg):qm P w K mg base qO 1 f fd ["_law_worths_here"] Gd:=by
 refine F.okJ J2 (λvs H Q E h=>?_) (λcdv A outer s H vs Q E hr h=>?_)
 . obtain⟨l,ps,ws,rfl,_⟩:=h
   rfl
 . obtain⟨l,ps,ws,rfl,hL,hTl,hok,hlen,q⟩:=h
   refine⟨_,qe (qw (i:=1) J2.nd rfl (Or.inr rfl) qi)
     (qe (jc PassesOwn.never rfl (qH (jv 0)) (YI rfl (jT (qt (i:=2) J2.nd rfl (Or.inl rfl)) (jT (qt (i:=3) J2.nd rfl (Or.inl rfl)) ZL)))
       (qg (qM (qu Qe (jv 2) qI (qy _)) (qg (qw (i:=1) J2.nd rfl (Or.inr rfl) (qN Wj (jv 1) (jv 3)))) qz)))
     (qe (qw (i:=4) J2.nd rfl (Or.inr rfl) (j3 (N':=["_law_word","_law_one"]) (ix:=[none,none]) (g:=R4 K 2 (Vs (QP 0) (Vs (QP 1) R6))) rfl ⟨rfl,rfl,rfl,rfl,rfl⟩ (qH (jv 0))
         (λC s2 H2 fp pins=>⟨YI rfl (jT (qt (i:=0) (show (["_law_word","_law_one"]:List Str).Nodup by decide+kernel) rfl (Or.inl rfl)) (jT (qt (i:=1) (show (["_law_word","_law_one"]:List Str).Nodup by decide+kernel) rfl (Or.inl rfl)) ZL)),
           jy (qu Qe (jv 0) qI (qy _)),jv 1⟩)))
     (qe (qM (qu (V2 hr.units) (jv 4) (jD qf) (qy _)) (qg (qv (jC (qb qI (qb (jv 1) qf))))) qz)
     (qe (qM (qu zo (qA qP (by rfl) B.len boot_len (qb (jv 4) qf)) qi (qy _)) (qg (qv (jC (qb qI (qb qi qf))))) qz)
     (qg (qv (jC (qb qI (qb (qA (ze rfl) (by rfl) T.sum boot_sum (qb (j3 (N':=["_law_k","_law_sets","_law_number"]) (ix:=[none,some 4,some 1])
         (tt:=Y8 (zH rEq (zH (kB λi j=>.int (Builtin.bitAnd i j)) (zH (rI (λ_ j=>0<=j) λi j=>.int (i / 2^j.toNat)) (zH (Rq K) (qU 1) (tC (.int 0))) (zH (kB λi j=>.int (Builtin.bitXor i j)) (qU 0) (qU 2))) (tC (.int 1))) (tC (.int 1)))) (te:=zH (rI K5 λi j=>.int (i*2^j.toNat)) (tC (.int 1)) (qU 0)) rfl ⟨rfl,rfl,rfl,rfl,rfl⟩ (jp (by rfl) B.rng (qb qi qf)) (λC s2 H2 fp pins=>
         ⟨qt (i:=0) (show (["_law_k","_law_sets","_law_number"]:List Str).Nodup by decide+kernel) rfl (Or.inl rfl),jy (qu Qe (qN xt (qN xn (qZ jY (jv 1) qi (λ_ _=>rfl)) (qN Wj (jv 0) (jv 2))) qi) qi (qy _)),qN V1 qi (jv 0)⟩)) qf)) qf))))))))),?_⟩
   have item:∀{i:Nat} {x:V},(ps.map V.ref)[i]?=some x->∃(p:Addr) (u:Rb.W),x=.ref p/\ws[i]?=some u/\H p=some (.tup [.str (j1 u),.int (Zw u:Nat)]):=λ{i x} hx=>by
     rw[List.getElem?_map]at hx
     cases ep:ps[i]? with
     | none=>rw[ep]at hx;cases hx
     | some p=>
       rw[ep]at hx
       have hi:i < ws.length:=by
         have:=(List.getElem?_eq_some_iff.mp ep).1
         rw[hTl.1]at this
         exact this
       have ew:ws[i]?=some ws[i]:=List.getElem?_eq_getElem hi
       exact⟨p,_,(Option.some.inj hx).symm,ew,by rw[<-UI];exact hTl.2 i p _ ep ew⟩
   have tk:∀{i:Nat} {u:Rb.W},ws[i]?=some u->ws.take (i+1)=ws.take i++[u]:=λ{i u} e=>by rw[List.take_add_one,e];rfl
   refine⟨_,rfl,l,rfl,⟨_,.of hL⟩,?_⟩
   refine jm (K:=K) (a:=l) (xs:=ps.map V.ref) (λi σ H'=>∃v2 v3,σ=[some (.ref l),some (.int (js (QU (ws.take i)):Nat)),v2,v3,none]/\H'=H) ⟨none,none,rfl,rfl⟩ (λi σ H' _ ⟨_,_,_,e⟩=>e▸.of hL) ?_ ?_
   . rintro i x σ H' hx ⟨v2,v3,rfl,rfl⟩
     obtain⟨p,u,rfl,ew,hT⟩:=item hx
     refine⟨p,_,rfl,.of hT,rfl,_,_,rfl,_,_,rfl,rfl,_,rfl,rfl,_,rfl,?_⟩
     rw[tk ew,Xh]
     cases u with
     | num n=>
       have e:decide (V.str (j1 (.num n))=V.str (Str.ofString "number"))=true:=decide_eq_true rfl
       rw[e]
       refine jP ⟨_,rfl,_,rfl,_,_,rfl,rfl,some (.str (j1 (.num n))),some (.int (Zw (.num n):Nat)),?_,rfl⟩
       show _=[_,some (V.int ((js (QU (ws.take i)++[n]):Nat):Int)),_,_,_]
       rw[zh,<-bx]
       rfl
     | edl b=>
       have e:decide (V.str (j1 (.edl b))=V.str (Str.ofString "number"))=false:=wN
       rw[e]
       refine jf ⟨some (.str (j1 (.edl b))),some (.int (Zw (.edl b):Nat)),?_,rfl⟩
       show _=[_,some (V.int ((js (QU (ws.take i)++[]):Nat):Int)),_,_,_]
       rw[List.append_nil]
       rfl
   . rintro σ H' ⟨v2,v3,rfl,rfl⟩
     rw[List.length_map,hTl.1,List.take_of_length_le (Nat.le_refl _)]
     refine⟨_,rfl,l,rfl,⟨_,.of hL⟩,λD hD=>?_⟩
     refine jL (K:=K) (a:=l) (xs:=ps.map V.ref) (λi σ' G=>∃v0 v1,σ'=[v0,v1]/\G=upd H' D (.lst (Jg (Qx (ws.take i))))) ⟨none,none,rfl,rfl⟩ (λi σ' G _ ⟨_,_,_,e⟩=>e▸.of (ql hL hD)) ?_ ?_
     . rintro i x σ' G hx ⟨v0,v1,rfl,rfl⟩
       obtain⟨p,u,rfl,ew,hT⟩:=item hx
       refine⟨p,_,rfl,.of (ql hT hD),rfl,_,_,rfl,_,_,rfl,rfl,_,rfl,rfl,_,rfl,?_⟩
       rw[tk ew,Xd]
       have l1:(Jg (Qx (ws.take i))).length < sizeLine:=by
         rw[Jr]
         refine qp (Nat.le_trans (yS _) ?_)
         rw[List.length_take]
         omega
       cases u with
       | num n=>
         have e:decide (V.str (j1 (.num n))=V.str (Str.ofString "endless"))=false:=wE
         rw[e]
         refine jf ⟨_,_,rfl,?_⟩
         rw[List.append_nil]
       | edl b=>
         have e:decide (V.str (j1 (.edl b))=V.str (Str.ofString "endless"))=true:=decide_eq_true rfl
         rw[e]
         refine jP ⟨_,rfl,_,qd,l1,_,_,rfl,?_⟩
         rw[jr,<-YJ]
         rfl
     . rintro σ' G ⟨v0,v1,rfl,rfl⟩
       rw[List.length_map,hTl.1,List.take_of_length_le (Nat.le_refl _)]
       have s1:Same H' (upd H' D (.lst (Jg (Qx ws)))):=qk hD
       have c1:upd H' D (.lst (Jg (Qx ws))) D=some (.lst (Jg (Qx ws))):=qd
       generalize upd H' D (.lst (Jg (Qx ws)))=G at s1 c1 ⊢
       have hlt:=uE hok
       have hx16:=ZX (Wn hok)
       refine⟨_,rfl,by show 0<=sizeLine;decide,λpe hpe=>?_⟩
       have s2:Same G (upd G pe (.lst [])):=qk hpe
       refine⟨.list ((Qx ws).map λn=>PyData.int (n:Nat)),.list [],.lst (.of (s2 _ _ c1)) (vT _),.lst (.of qd) .nil,uD _,by decide,_,rfl,?_⟩
       rw[KO]
       have c2:=s2 _ _ c1
       have s3:=s1.trans s2
       generalize upd G pe (.lst [])=G2 at s3 c2 ⊢
       have fin:∀(p:Addr) (G9:Hp) (u:Rb.W),Same H' G9->G9 p=none->Qg ws=u->Q (.ref p) (upd G9 p (.tup [.str (j1 u),.int (Zw u:Nat)])):=λp G9 u s9 hp eu=>
         q _ _ (s9.trans (qk hp)) (by rw[eu,UI];exact qd)
       cases hs:Qx ws with
       | nil=>
         rw[decide_eq_true rfl]
         have et:Qg ws=.num (js (QU ws)):=by unfold Qg;rw[hs]
         refine jP ⟨_,rfl,by show 2<=sizeLine;decide,λp hp=>fin p _ _ s3 hp et⟩
       | cons b r=>
         rw[hs]at c2 hlt
         rw[decide_eq_false (by simp)]
         refine jf ⟨_,rfl,D,_,rfl,.inl (.of c2),_,_,rfl,rfl,_,rfl,?_⟩
         cases r with
         | nil=>
           have et:Qg ws=.edl (turnN b (js (QU ws)) 16):=by unfold Qg;rw[hs]
           refine jf ⟨16,rfl,by decide,by decide,λU hU=>?_⟩
           generalize js (QU ws)=n at hx16 et ⊢
           refine WE (n:=16) (out:=λj=>if (λk=>b.testBit (k^^^n)) j=true then some (V.int ((2^j:Nat):Int)) else none) (rest:=[some (.ref D),some (.int (n:Nat))]) hU (by decide) ?_ ?_ ?_
           . intro x hx G' s5 R kk
             refine⟨_,rfl,D,_,0,_,rfl,rfl,.of (s5 _ _ c2),rfl,_,rfl,_,rfl,_,_,rfl,rfl,_,_,rfl,rfl,?_,_,_,rfl,rfl,rfl,_,rfl,?_⟩
             . rw[bx];omega
             . have:=kk G' λ_ _ h=>h
               have e7:Builtin.bitAnd ((b:Int) / 2^ (Builtin.bitXor (x:Int) (n:Int)).toNat) 1=(((b.testBit (x^^^n)).toNat:Nat):Int):=by rw[bx,U1]
               show R (decide (V.int (Builtin.bitAnd ((b:Int) / 2^ (Builtin.bitXor (x:Int) (n:Int)).toNat) 1)=V.int 1)) G'
               rw[e7]
               cases c:b.testBit (x^^^n) with
               | true=>rw[if_pos c]at this;exact this
               | false=>rw[if_neg (by simp [c])]at this;exact this
           . intro x hx v ev G' s5 R kk
             have:v=V.int ((2^x:Nat):Int):=by
               split at ev
               . exact(Option.some.inj ev).symm
               . cases ev
             subst this
             refine⟨_,rfl,1,(x:Int),rfl,rfl,⟨by omega,by omega,by decide⟩,?_⟩
             have e9:(1:Int)*2^ ((x:Int).toNat)=((2^x:Nat):Int):=by
               rw[Int.one_mul,Int.toNat_natCast]
               exact(Int.natCast_pow 2 x).symm
             show R (.int ((1:Int)*2^ ((x:Int).toNat))) G'
             rw[e9]
             exact kk G' λ_ _ h=>h
           . intro G4 s4 hU4
             rw[R7 (λk=>b.testBit (k^^^n))]at hU4
             have es:=yG (b:=b) hx16
             have lt:turnN b n 16 < 65536:=XI (k:=4) (Nat.le_refl _) hx16
             refine⟨U,_,rfl,.of hU4,by rw[es];omega,?_⟩
             rw[es]
             exact⟨by show 2<=sizeLine;decide,λp hp=>fin p _ _ (s3.trans s4) hp et⟩
         | cons b2 r=>
           have et:Qg ws=.edl 0:=by unfold Qg;rw[hs]
           have e:decide ((1:Int) < ((Jg (b::b2::r)).length:Int))=true:=decide_eq_true (by rw[Jr];simp only[List.length_cons];omega)
           rw[e]
           refine jP ⟨by show 2<=sizeLine;decide,λp hp=>fin p _ _ s3 hp et⟩
theorem M0:qr ["_law_worth"] ["_law_worth"] (qj MG):=⟨rfl,rfl,rfl,by decide+kernel,rfl,by decide+kernel,by decide+kernel⟩
theorem N7 {f:Addr} {fd:FuncData} (F:jM K "_law_outcome" "_law_outcome" MG f fd) (B:QJ mg):qm P w K mg base qO 1 f fd ["_law_worth"] NO:=by
 refine F.okJ M0 (λvs H Q E h=>?_) (λcdv A outer s H vs Q E hr h=>?_)
 . obtain⟨t,u,rfl,_⟩:=h
   rfl
 . obtain⟨t,u,rfl,ht,q⟩:=h
   refine⟨_,qe (qM (qu Qe (qZ jn (jv 0) qi (λ_ _=>rfl)) qI (qy _))
       (qg (qv (qZ jY (jD (qb qI (qb qI qf))) (j4 Xr (by rfl) B.int boot_int (qb (ju zo (qZ jn (jv 0) qi (λ_ _=>rfl)) qi (qy _)) qf)) (λ_ _=>rfl)))) qz)
     (qg (qv (qZ jY (jD (qb qI (qb qI qf))) (qN QZ (qZ jn (jv 0) qi (λ_ _=>rfl)) qi) (λ_ _=>rfl)))),?_⟩
   cases u with
   | num n=>
     refine⟨_,rfl,t,_,0,_,rfl,rfl,.of ht,rfl,rfl,_,rfl,QE (by decide+kernel) ?_⟩
     refine⟨by show 2<=sizeLine;decide,λl hl=>⟨_,rfl,t,_,1,_,rfl,rfl,.of (ql ht hl),rfl,_,_,rfl,rfl,.inr ⟨_,rfl,?_⟩⟩⟩
     have q:=q _ (qk (o:=HO.lst [.str "lost",.str "won"]) hl)
     have q:Q (.str (if n=0 then "lost" else "won")) (upd H l (.lst [.str "lost",.str "won"])):=q
     by_cases c:n=0
     . rw[if_pos c]at q
       subst c
       exact⟨l,_,_,_,rfl,rfl,.of qd,rfl,q⟩
     . rw[if_neg c]at q
       rw[decide_eq_true (show (0:Int) < ((n:Nat):Int) by omega)]
       exact⟨l,_,_,_,rfl,rfl,.of qd,rfl,q⟩
   | edl b=>
     refine⟨_,rfl,t,_,0,_,rfl,rfl,.of ht,rfl,rfl,_,rfl,Qb (by decide+kernel) ?_⟩
     refine⟨by show 2<=sizeLine;decide,λl hl=>⟨_,rfl,t,_,1,_,rfl,rfl,.of (ql ht hl),rfl,_,_,rfl,rfl,show (0:Int) < 2 by decide,?_⟩⟩
     have q:=q _ (qk (o:=HO.lst [.str "drawn",.str "won"]) hl)
     have q:Q (.str (if b.testBit 0=true then "won" else "drawn")) (upd H l (.lst [.str "drawn",.str "won"])):=q
     have eb:b.testBit 0=decide (b % 2=1):=Nat.testBit_zero b
     rw[eb]at q
     rcases Nat.mod_two_eq_zero_or_one b with c | c
     . have e:(((b:Nat):Int) % 2)=0:=by omega
       rw[if_neg (by rw[c];decide)]at q
       refine⟨l,_,_,_,rfl,rfl,.of qd,?_,q⟩
       show vM _ (((b:Nat):Int) % 2)=_
       rw[e]
       rfl
     . have e:(((b:Nat):Int) % 2)=1:=by omega
       rw[if_pos (by rw[c];decide)]at q
       refine⟨l,_,_,_,rfl,rfl,.of qd,?_,q⟩
       show vM _ (((b:Nat):Int) % 2)=_
       rw[e]
       rfl
end
end Rh
set_option Elab.async false
set_option linter.all false
set_option maxRecDepth 100000
set_option maxHeartbeats 4000000
namespace Rh
open PySem L2 PyProof.Rows MLab
abbrev j6:Stmt:=jH (top 9) 0
structure uf (K:PySem.W.Frag) (mg:Str->Option Value) (D:Addr) (x qual:Str) (st:Stmt) (fld:Str) (C f:Addr) (fd:FuncData):Prop where
 cls:zG K C (.ref D::Qq)
 mkr:Mz K C f (.ref D::Qq)
 ns:mg x=some (.ref C)
 na:jF K C fld
 fn:jM K "__init__" qual st f fd
 bi:jx K fd ["self",fld] []
theorem qae (D:Addr):VZ (.ref D::Qq):=rfl
theorem kX (D:Addr):(Value.ref D::Qq).contains (.type "BaseException")=true:=rfl
theorem uf.rcls {K:PySem.W.Frag} {mg:Str->Option Value} {D C f:Addr} {x qual fld:Str} {st:Stmt} {fd:FuncData} (h:uf K mg D x qual st fld C f fd):Nk K C:=⟨f,_,h.mkr,kX D⟩
def spE (C:Addr) (fld:Str):Sp:=λvs H Q _=>∃e y,vs=[.ref e,y]/\H e=some (zd e C)/\∀dx,H dx=none->Q .non (upd (upd H e (Ze e C dx)) dx (.xd [(fld,y)]))
theorem zR {H:Hp} {e dx C:Addr} {fs:List (Str×V)} (h1:H e=none) (h2:upd H e (zd e C) dx=none):
   Same H (upd (upd (upd H e (zd e C)) e (Ze e C dx)) dx (.xd fs))/\upd (upd (upd H e (zd e C)) e (Ze e C dx)) dx (.xd fs) e=some (Ze e C dx)/\upd (upd (upd H e (zd e C)) e (Ze e C dx)) dx (.xd fs) dx=some (.xd fs):=by
 have ne:e≠dx:=λz=>by rw[<-z,qd]at h2;cases h2
 refine⟨λb o hb=>?_,?_,qd⟩
 . have b1:b≠e:=qo hb h1
   have b2:b≠dx:=λz=>by rw[<-z,qh b1,hb]at h2;cases h2
   rw[qh b2,qh b1,qh b1];exact hb
 . rw[qh ne];exact qd
def Jj (H H':Hp):Prop:=∀b o,H b=some o->(∀φ,o≠.ext φ)->H' b=some o
theorem _root_.L2.Same.keep {H H':Hp} (s:Same H H'):Jj H H':=λb o h _=>s b o h
theorem Jj.trans {H H' H'':Hp} (a:Jj H H') (b:Jj H' H''):Jj H H'':=λc o h n=>b c o (a c o h n) n
theorem Jj.refl (H:Hp):Jj H H:=λ_ _ h _=>h
theorem _root_.L2.SqT.keep {K:PySem.W.Frag} {H H':Hp} {p:Addr} {xs:List V} (h:SqT K H p xs) (s:Jj H H'):SqT K H' p xs:=by
 rcases h with (h | ⟨o,h⟩) | h
 . exact .inl (.inl (s _ _ h (λ_ z=>nomatch z)))
 . exact .inl (.inr ⟨o,s _ _ h (λ_ z=>nomatch z)⟩)
 . exact .inr h
theorem _root_.L2.SqL.keep {K:PySem.W.Frag} {H H':Hp} {p:Addr} {xs:List V} (h:SqL K H p xs) (s:Jj H H'):SqL K H' p xs:=by
 rcases h with (h | ⟨o,h⟩) | h
 . exact .inl (.inl (s _ _ h (λ_ z=>nomatch z)))
 . exact .inl (.inr ⟨o,s _ _ h (λ_ z=>nomatch z)⟩)
 . exact .inr h
theorem jQ.keep {CG:Addr} {H H':Hp} {a:Addr} {rs:jt} (h:jQ CG H a rs) (s:Jj H H'):jQ CG H' a rs:=by
 obtain⟨dx,lo,rd,kvs,h1,h2,h3,h4⟩:=h
 exact⟨dx,lo,rd,kvs,s _ _ h1 (λ_ z=>nomatch z),s _ _ h2 (λ_ z=>nomatch z),s _ _ h3 (λ_ z=>nomatch z),λr hr=>let ⟨q,a,b⟩:=h4 r hr;⟨q,a,s _ _ b (λ_ z=>nomatch z)⟩⟩
theorem TyOf.keep {K:PySem.W.Frag} {H H':Hp} {v:V} {t:Value} (h:TyOf K H v t) (s:Jj H H'):TyOf K H' v t:=by
 cases h with
 | non=>exact .non
 | bl x=>exact .bl x
 | int i=>exact .int i
 | str x=>exact .str x
 | flt x=>exact .flt x
 | lst e=>exact .lst (s _ _ e (λ_ z=>nomatch z))
 | frz e=>exact .frz (s _ _ e (λ_ z=>nomatch z))
 | tup e=>exact .tup (s _ _ e (λ_ z=>nomatch z))
 | dK e=>exact .dK (s _ _ e (λ_ z=>nomatch z))
 | dT e=>exact .dT (s _ _ e (λ_ z=>nomatch z))
 | ins e a b c d f=>exact .ins (s _ _ e (λ_ z=>nomatch z)) a b c d f
mutual
theorem WA {K:PySem.W.Frag} {H H':Hp} (s:Jj H H'):∀{x:V} {d:PyData},DV K H x d->DV K H' x d
 | _,_,.non=>.non
 | _,_,.bl b=>.bl b
 | _,_,.int i=>.int i
 | _,_,.str x=>.str x
 | _,_,.lst h hs=>.lst (h.keep s) (dvs_keep s hs)
 | _,_,.tup h hs=>.tup (h.keep s) (dvs_keep s hs)
theorem dvs_keep {K:PySem.W.Frag} {H H':Hp} (s:Jj H H'):∀{x:List V} {d:List PyData},DVs K H x d->DVs K H' x d
 | _,_,.nil=>.nil
 | _,_,.cons h hs=>.cons (WA s h) (dvs_keep s hs)
end
section
variable {P:Program} {w:World} {K:PySem.W.Frag} {mg:Str->Option Value} {base:Heap}
theorem kq:qr ["self","found"] ["self","found"] (qj j6):=⟨rfl,rfl,rfl,by decide+kernel,rfl,by decide+kernel,by decide+kernel⟩
theorem kN {D C f:Addr} {fd:FuncData} (x:uf K mg D "NoPlace" "NoPlace.__init__" j6 "found" C f fd):qm P w K mg base qO 1 f fd ["self","found"] (spE C "found"):=by
 refine x.fn.okJ kq (λvs H Q E h=>?_) (λcdv A outer s H vs Q E hr h=>?_)
 . obtain⟨e,y,rfl,_⟩:=h
   rfl
 . obtain⟨e,y,rfl,hH,k⟩:=h
   exact⟨_,qg (RS (bm:=.ref D::Qq) (jv 0) (jv 1) rfl),_,rfl,_,rfl,e,C,rfl,hH,x.cls,qae D,x.na,λdx hdx=>k dx hdx⟩
def Uu (K:PySem.W.Frag) (H:Hp) (N:List Str) (v:V):Prop:=(∃d,DV K H v d/\d.canLay0=true/\d.depth<=40/\∀z∈N,PyData.eqv (.str z) d=false)\/∃a kvs,v=.ref a/\H a=some (.dK kvs)
theorem Uu.keep {H H':Hp} {N:List Str} {v:V} (h:Uu K H N v) (s:Jj H H'):Uu K H' N v:=by
 rcases h with ⟨d,a,b⟩ | ⟨a,kvs,e,h⟩
 . exact .inl ⟨d,WA s a,b⟩
 . exact .inr ⟨a,kvs,e,s _ _ h λ_ z=>nomatch z⟩
theorem wj {X:Cx} {x:Str} {st:Stmt} {ps:List Str} {f:Addr} {fd:FuncData} {k:Nat} {sp:Sp} {E:XK} {e:Expr} {es:List Expr} {t:TA} {p pos:Pos} (h:jq X.K X.mg x st ps f fd) (G:qm X.prog X.w X.K X.mg X.base (XD X.prog X.w) k f fd ps sp) (hr:qW k X.A) (hx:Ql (XD X.prog X.w) X E)
   (hg:Gl X x) (ha:JA X (e::es) t) (hdb:(x==("__debug__":Str))=false:=by decide) (he:starEach (e::es) X.env=(false,eval e X.env)::starEach es X.env:=by rfl) (hpl:(backTo pos (starEach es X.env)).any (·.1)=false:=by rfl):
   JE X (.Call (.Name x p) (e::es) [] pos) (zj sp [] E t):=.of (vf G hr hg h.ns h.fn.kp h.bi .nil hx ha.to hdb he hpl)
def VP (K:PySem.W.Frag) (CG CP:Addr):Sp:=λvs H Q E=>∃(a:Addr) (rs:jt) (v:V),vs=[.ref a,v]/\jQ CG H a rs/\qB rs/\Uu K H (rs.map (·.1)) v/\∀H1 dx,Same H H1->H1 dx=some (.xd [(Str.ofString "found",v)])->E (.ref CP) (some dx) H1
theorem kL {f CG D CP fP:Addr} {fd fdP:FuncData} (F:jM K "need_place" "need_place" JN f fd) (G:Qv mg) (M:GM K mg CG) (xP:uf K mg D "NoPlace" "NoPlace.__init__" j6 "found" CP fP fdP):qm P w K mg base (XD P w) 3 f fd yt (VP K CG CP):=by
 obtain⟨fC,fdC,C⟩:=M.cls
 obtain⟨fN,fdN,hN⟩:=M.nm
 have GN:qm P w K mg base qO 1 fN fdN ["self"] (QK CG):=QF hN.fn C G
 have GP:qm P w K mg base qO 1 fP fdP ["self","found"] (spE CP "found"):=kN xP
 refine F.okX NR (λvs H Q E h=>?_) (λcdv A outer s H vs Q E hr h=>?_)
 . obtain⟨g,rs,v,rfl,_⟩:=h
   rfl
 . obtain⟨g,rs,v,rfl,gr,good,hn,q⟩:=h
   refine⟨_,qg (qM (qu (kG hr.units) (jv 1) (Xm hN C.cl GN (hr.mono (by decide)) (jv 0)) (by with_unfolding_all rfl))
     (qg (x5 rfl kz (we xP.mkr GP hr (by rfl) xP.ns xP.bi QL (qb (jv 1) qf)))) qz),?_⟩
   obtain⟨dx,fs,hg,l1,l2⟩:=gr.ins
   refine⟨_,rfl,_,rfl,g,dx,fs,rfl,hg,l1,g,rs,rfl,gr,λl hl=>?_⟩
   have s1:Same H (upd H l (.lst ((rs.map (·.1)).map V.str))):=qk hl
   have hl1:upd H l (.lst ((rs.map (·.1)).map V.str)) l=some (.lst ((rs.map (·.1)).map V.str)):=qd
   generalize upd H l (.lst ((rs.map (·.1)).map V.str))=H1 at s1 hl1
   rcases hn.keep s1.keep with ⟨d,dv,cl,dp,no⟩ | ⟨a,kvs,rfl,ha⟩
   . have e0:((rs.map (·.1)).map PyData.str).any (λz=>PyData.eqv z d)=false:=by
       rw[List.any_eq_false]
       intro x hx
       obtain⟨z,hz,rfl⟩:=List.mem_map.mp hx
       rw[no z hz]
       exact Bool.false_ne_true
     refine .inl ⟨d,_,dv,qaD hl1,cl,Mr (λz hz=>by obtain⟨r,hr',rfl⟩:=List.mem_map.mp hz;exact good.nm r hr'),dp,?_⟩
     show ∃k,V.bl (!_)=V.bl k/\_
     rw[e0]
     refine⟨_,rfl,jP ⟨_,rfl,by show 1<=sizeLine;decide,λe he=>⟨e,v,rfl,qd,λdx hdx=>⟨rfl,e,CP,dx,rfl,?_,xP.rcls,?_⟩⟩⟩⟩
     . exact(zR he hdx).2.1
     . obtain⟨m1,m2,m3⟩:=zR (fs:=[(Str.ofString "found",v)]) he hdx
       exact q _ dx (s1.trans m1) m3
   . refine .inr ⟨a,l,kvs,rs.map (·.1),rfl,rfl,ha,.of hl1,_,rfl,jP ⟨_,rfl,by show 1<=sizeLine;decide,λe he=>⟨e,.ref a,rfl,qd,λdx hdx=>⟨rfl,e,CP,dx,rfl,?_,xP.rcls,?_⟩⟩⟩⟩
     . exact(zR he hdx).2.1
     . obtain⟨m1,m2,m3⟩:=zR (fs:=[(Str.ofString "found",V.ref a)]) he hdx
       exact q _ dx (s1.trans m1) m3
end
end Rh
set_option Elab.async false
set_option linter.all false
set_option maxRecDepth 100000
set_option maxHeartbeats 4000000
namespace Rh
open PySem L2 PyProof.Rows MLab Rb
abbrev Wa:Stmt:=top 51
abbrev Zl:Stmt:=top 52
abbrev Jb:Stmt:=top 53
def wD (u:W):PyData:=.tuple [.str (j1 u),.int (Zw u:Nat)]
theorem UC {K:PySem.W.Frag} {H:Hp} {t:Addr} {u:W} (h:H t=some (.tup (tW u))):DV K H (.ref t) (wD u):=by
 rw[UI]at h
 exact .tup (.of h) (.cons (.str _) (.cons (.int _) .nil))
theorem okN:PyData.strOk "number"=true:=by decide+kernel
theorem okE:PyData.strOk "endless"=true:=by decide+kernel
theorem UB (u:W):PySem.SeqAt.shaped (wD u)=true:=by
 unfold PySem.SeqAt.shaped wD
 cases u with
 | num n=>
   simp only[j1,PyData.canLay0,PyData.canLayAll0,okN,PyData.depth,PyData.depthAll]
   rfl
 | edl n=>
   simp only[j1,PyData.canLay0,PyData.canLayAll0,okE,PyData.depth,PyData.depthAll]
   rfl
theorem K8 (u v:W):PyData.eqv (wD u) (wD v)=decide (u=v):=by
 have e1:((Str.ofString "number")==(Str.ofString "endless"))=false:=by decide+kernel
 have e2:((Str.ofString "endless")==(Str.ofString "number"))=false:=by decide+kernel
 have key:PyData.eqv (wD u) (wD v)=((j1 u==j1 v)&&(((Zw u:Nat):Int)==((Zw v:Nat):Int)&&true)):=rfl
 rw[key]
 cases u with
 | num n=>
   cases v with
   | num m=>
     show (((Str.ofString "number")==(Str.ofString "number"))&&(((n:Nat):Int)==((m:Nat):Int)&&true))=_
     by_cases c:n=m
     . subst c;simp
     . rw[decide_eq_false (λe=>c (by cases e;rfl))]
       have c':¬((n:Int)=(m:Int)):=λe=>c (by omega)
       simp [c']
   | edl m=>
     show (((Str.ofString "number")==(Str.ofString "endless"))&&_)=_
     rw[e1]
     rfl
 | edl n=>
   cases v with
   | num m=>
     show (((Str.ofString "endless")==(Str.ofString "number"))&&_)=_
     rw[e2]
     rfl
   | edl m=>
     show (((Str.ofString "endless")==(Str.ofString "endless"))&&(((n:Nat):Int)==((m:Nat):Int)&&true))=_
     by_cases c:n=m
     . subst c;simp
     . rw[decide_eq_false (λe=>c (by cases e;rfl))]
       have c':¬((n:Int)=(m:Int)):=λe=>c (by omega)
       simp [c']
def o2 (rs:jt) (R:Rs Str) (x z:Str):Str:=Zn (Qg [wT rs R x,wT rs R z])
theorem zi:(Str.ofString "won")≠(Str.ofString "lost"):=by decide+kernel
theorem YZ:(Str.ofString "drawn")≠(Str.ofString "lost"):=by decide+kernel
theorem XF:(Str.ofString "won")≠(Str.ofString "drawn"):=by decide+kernel
theorem Kb (b:Nat):Zn (.edl b)≠(Str.ofString "lost"):=by
 show (if b.testBit 0=true then (Str.ofString "won") else (Str.ofString "drawn"))≠_
 split
 . exact zi
 . exact YZ
theorem zP {n:Nat} {u:W}:Zn (Qg [u,.num n])=(Str.ofString "lost")↔u=.num n:=by
 cases u with
 | num m=>
   have e:Qg [.num m,.num n]=.num (m^^^n):=by
     show W.num (js [m,n])=_
     rw[QT,QT]
     show W.num (m^^^ (n^^^0))=_
     rw[Nat.xor_zero]
   rw[e]
   show (if m^^^n=0 then (Str.ofString "lost") else (Str.ofString "won"))=_↔_
   by_cases c:m^^^n=0
   . rw[if_pos c]
     refine⟨λ_=>?_,λ_=>rfl⟩
     have:m=n:=by
       have h1:(m^^^n)^^^n=0^^^n:=by rw[c]
       rwa [Nat.xor_assoc,Nat.xor_self,Nat.xor_zero,Nat.zero_xor]at h1
     rw[this]
   . rw[if_neg c]
     refine⟨λh=>absurd h zi,λh=>?_⟩
     cases h
     exact absurd (Nat.xor_self n) c
 | edl b=>
   refine⟨λh=>absurd h (Kb _),λh=>?_⟩
   cases h
theorem vg {b n:Nat} (hn:n < 16):Zn (Qg [.edl b,.num n])=if b.testBit n=true then (Str.ofString "won") else (Str.ofString "drawn"):=by
 have e:Qg [.edl b,.num n]=.edl (turnN b n 16):=by
   show W.edl (turnN b (js [n]) 16)=_
   rw[QT]
   show W.edl (turnN b (n^^^0) 16)=_
   rw[Nat.xor_zero]
 rw[e]
 show (if (turnN b n 16).testBit 0=true then (Str.ofString "won") else (Str.ofString "drawn"))=_
 rw[j5 hn,Nat.zero_xor]
 simp
theorem u9 {rs:jt} (good:qB rs) {R:Rs Str} (L:ZV (Js rs) (·∈rs.map (·.1)) (qC R) (J4 R)) {x y:Str} (hx:x∈rs.map (·.1)) (hy:y∈rs.map (·.1)) (ne:wT rs R x≠wT rs R y):∃z∈rs.map (·.1),o2 rs R x z≠o2 rs R y z:=by
 unfold o2
 cases cx:qC R x with
 | some n=>
   refine⟨x,hx,λe=>?_⟩
   rw[z8 cx]at e ne
   have h1:Zn (Qg [W.num n,W.num n])=(Str.ofString "lost"):=zP.mpr rfl
   rw[h1]at e
   exact ne (zP.mp e.symm).symm
 | none=>
   cases cy:qC R y with
   | some n=>
     refine⟨y,hy,λe=>?_⟩
     rw[z8 cy]at e ne
     have h1:Zn (Qg [W.num n,W.num n])=(Str.ofString "lost"):=zP.mpr rfl
     rw[h1]at e
     exact ne (zP.mp e)
   | none=>
     rw[XG cx,XG cy]at ne ⊢
     have key:∀{a b:Str},a∈rs.map (·.1)->(∃k,k∈ZU rs (qC R) a/\k∉ZU rs (qC R) b)->∃z∈rs.map (·.1),Zn (Qg [.edl (setN (ZU rs (qC R) a)),wT rs R z])≠Zn (Qg [.edl (setN (ZU rs (qC R) b)),wT rs R z]):=λ{a b} ha ⟨k,h1,h2⟩=>by
       obtain⟨z,hz,ez⟩:=Qm.mp h1
       have hzN:=L.cl ha hz
       have k8:=Z3 good L hzN ez
       refine⟨z,hzN,λe=>?_⟩
       rw[z8 ez,vg (by omega),vg (by omega),testBit_setN,testBit_setN,decide_eq_true h1,decide_eq_false h2]at e
       exact XF e
     by_cases c:∃k,k∈ZU rs (qC R) x/\k∉ZU rs (qC R) y
     . exact key hx c
     . by_cases c2:∃k,k∈ZU rs (qC R) y/\k∉ZU rs (qC R) x
       . obtain⟨z,hz,e⟩:=key hy c2
         exact⟨z,hz,Ne.symm e⟩
       . refine absurd ?_ ne
         congr 1
         refine Ye λk=>⟨λh=>Classical.byContradiction λn=>c ⟨k,h,n⟩,λh=>Classical.byContradiction λn=>c2 ⟨k,h,n⟩⟩
end Rh
set_option Elab.async false
set_option linter.all false
set_option maxRecDepth 100000
set_option maxHeartbeats 4000000
namespace Rh
open PySem L2 PyProof.Rows MLab Rb
def Gb (CG:Addr):Sp:=λvs H Q _=>∃(g:Addr) (rs:jt),vs=[.ref g]/\jQ CG H g rs/\qB rs/\rs.length<=14/\
 ∀H' D R,Same H H'->H D=none->z5 H' D (wT rs R) (rs.map (·.1))->All (Js rs) (rs.map (·.1)) 0 [] R->Q (.ref D) H'
def X0 (CG:Addr):Sp:=λvs H Q _=>∃(g:Addr) (rs:jt) (x y:Str),vs=[.ref g,.str x,.str y]/\jQ CG H g rs/\qB rs/\rs.length<=14/\x∈rs.map (·.1)/\y∈rs.map (·.1)/\
 ∀H' R,Same H H'->All (Js rs) (rs.map (·.1)) 0 [] R->Q (.bl (decide (wT rs R x=wT rs R y))) H'
def GH (z a b:Str):List V:=[.str z,.str a,.str b]
def yK (CG:Addr):Sp:=λvs H Q _=>∃(g:Addr) (rs:jt) (x y:Str),vs=[.ref g,.str x,.str y]/\jQ CG H g rs/\qB rs/\rs.length<=14/\x∈rs.map (·.1)/\y∈rs.map (·.1)/\
 ∀H' v R,Same H H'->All (Js rs) (rs.map (·.1)) 0 [] R->((wT rs R x=wT rs R y/\v=.non)\/(wT rs R x≠wT rs R y/\∃t z,z∈rs.map (·.1)/\o2 rs R x z≠o2 rs R y z/\v=.ref t/\H' t=some (.tup (GH z (o2 rs R x z) (o2 rs R y z)))))->Q v H'
section
variable {P:Program} {w:World} {K:PySem.W.Frag} {mg:Str->Option Value} {base:Heap}
theorem U2:qr ["ground","labels","told","name"] ["ground"] (qj Wa):=⟨rfl,rfl,rfl,by decide+kernel,rfl,by decide+kernel,by decide+kernel⟩
theorem xv {f CG:Addr} {fd:FuncData} (F:jM K "worths_told" "worths_told" Wa f fd) (h:WF K mg) (B:QJ mg) (Z:Wk K mg) (G:Qv mg) (T:QQ K mg) (M:GM K mg CG) (Y:Ux K mg) (O:Uw K mg):qm P w K mg base qO 9 f fd ["ground"] (Gb CG):=by
 obtain⟨fB,fdB,hB⟩:=Y.labels
 obtain⟨fL,fdL,hL⟩:=O.lw
 obtain⟨fC,fdC,C⟩:=M.cls
 obtain⟨fN,fdN,hN⟩:=M.nm
 have GN:qm P w K mg base qO 1 fN fdN ["self"] (QK CG):=QF hN.fn C G
 have GB:qm P w K mg base qO 8 fB fdB ["ground"] (Yb CG):=Xg hB.fn B G T M Y
 have GL:qm P w K mg base qO 5 fL fdL ["label"] (uB h.CN h.CE):=Gp hL.fn h B Z
 refine F.okJ U2 (λvs H Q E h=>?_) (λcdv A outer s H vs Q E hr h0=>?_)
 . obtain⟨g,rs,rfl,_⟩:=h
   rfl
 . obtain⟨g,rs,rfl,gr,good,le14,q⟩:=h0
   have hu:=jV hr
   refine⟨_,qe (qw (i:=1) U2.nd rfl (Or.inl rfl) (qJ hB GB hr (by rfl) (qb (jv 0) qf)))
     (qe (qw (i:=2) U2.nd rfl (Or.inl rfl) jU)
     (qe (jc PassesOwn.never rfl (qH (Xm hN C.cl GN (hr.mono (by decide)) (jv 0))) (qt (i:=3) U2.nd rfl (Or.inl rfl))
       (qg (je hu (jv 2) (jv 3) (KA h (hr.mono (by decide)) (qJ hL GL (hr.mono (by decide)) (by rfl) (qb (qL hu (jv 1) (jv 3) (λ_ _=>rfl)) qf))) rfl)))
     (qg (qv (jv 2))))),?_⟩
   refine⟨_,rfl,g,rs,rfl,gr,good,le14,λH1 L R s1 hL1 lb all=>?_⟩
   have La:=xY (JY good.nd) all
   intro D hD
   have s2:Same H1 (upd H1 D (.dK [])):=qk hD
   have hD2:upd H1 D (.dK []) D=some (.dK []):=qd
   generalize upd H1 D (.dK [])=H2 at s2 hD2
   obtain⟨dx,fs,hg,l1,l2⟩:=(gr.mono (s1.trans s2)).ins
   refine⟨_,rfl,g,dx,fs,rfl,hg,l1,g,rs,rfl,gr.mono (s1.trans s2),λln hln=>?_⟩
   have s3:Same H2 (upd H2 ln (.lst ((rs.map (·.1)).map V.str))):=qk hln
   have hl3:upd H2 ln (.lst ((rs.map (·.1)).map V.str)) ln=some (.lst ((rs.map (·.1)).map V.str)):=qd
   generalize upd H2 ln (.lst ((rs.map (·.1)).map V.str))=H3 at s3 hl3
   have nlD:ln≠D:=λe=>by rw[e,hD2]at hln;cases hln
   have hD0:H D=none:=j2 s1 hD
   refine⟨ln,rfl,⟨_,.of hl3⟩,?_⟩
   refine jm (K:=K) (a:=ln) (xs:=(rs.map (·.1)).map V.str) (λi σ' X=>∃v3:Option V,σ'=[some (.ref g),some (.ref L),some (.ref D),v3]/\Fr H3 D X/\z5 X D (wT rs R) ((rs.map (·.1)).take i))
     ⟨none,rfl,Fr.refl,⟨[],s3 _ _ hD2,rfl,λz h=>(nomatch h)⟩⟩ (λi σ' X _ ⟨_,_,f,_⟩=>.of (f _ _ hl3 nlD)) ?_ ?_
   . rintro i y σ' X hy ⟨v3,rfl,fr,wt⟩
     obtain⟨z,ez,hz,rfl⟩:=J1 hy
     have hi:=(List.getElem?_eq_some_iff.mp ez).1
     rw[List.length_map]at hi
     have lbX:∃t,jW X L (.str z) (some (.ref t))/\X t=some (.tup (ZH rs R z)):=by
       obtain⟨kvs,a,_,c⟩:=((lb.mono s2).mono s3).at_
       obtain⟨r,hr',rfl⟩:=List.mem_map.mp hz
       obtain⟨t,u,v⟩:=c r hr'
       have hLX:X L=some (.dK kvs):=fr _ _ a λe=>by
         obtain⟨kv0,b0,_⟩:=lb.at_
         rw[e,hD]at b0
         cases b0
       refine⟨t,by rw[<-u];exact jW.k (k:=(Sum.inr r.1:qE)) hLX,fr _ _ v λe=>?_⟩
       have:=s3 _ _ hD2
       rw[e,this]at v
       cases v
     obtain⟨t,gt,ht⟩:=lbX
     refine⟨_,rfl,_,rfl,L,_,rfl,gt,t,rs,R,z,rfl,ht,WN good La hz,λa X1 s4 iw=>⟨a,_,rfl,iw,λp hp=>?_⟩⟩
     have s5:Same X (upd X1 p (.tup [.str (j1 (wT rs R z)),.int (Zw (wT rs R z):Nat)])):=s4.trans (qk hp)
     have hp5:upd X1 p (.tup [.str (j1 (wT rs R z)),.int (Zw (wT rs R z):Nat)]) p=some (.tup (tW (wT rs R z))):=by rw[UI];exact qd
     generalize upd X1 p (.tup [.str (j1 (wT rs R z)),.int (Zw (wT rs R z):Nat)])=X2 at s5 hp5
     have nz:z∉(rs.map (·.1)).take i:=λm=>by
       have:=QG good.nd ez
       exact this (List.mem_map.mpr ⟨z,m,rfl⟩)
     obtain⟨o,put,wt'⟩:=(wt.mono s5).new nz (by rw[List.length_take];omega) hp5
     refine⟨_,rfl,_,rfl,D,_,rfl,put,_,rfl,(fr.same s5).at_d,?_⟩
     rw[List.take_add_one,ez]
     exact wt'
   . rintro σ' X ⟨v3,rfl,fr,wt⟩
     rw[List.length_map,List.take_of_length_le (Nat.le_refl _)]at wt
     exact⟨_,rfl,q X D R (λb u hb=>fr _ _ (s3 _ _ (s2 _ _ (s1 _ _ hb))) (qo hb hD0)) hD0 wt all⟩
theorem X9:qr ["ground","one","other","told"] ["ground","one","other"] (qj Zl):=⟨rfl,rfl,rfl,by decide+kernel,rfl,by decide+kernel,by decide+kernel⟩
structure w5 (K:PySem.W.Frag) (mg:Str->Option Value):Prop where
 wt:∃f fd,jq K mg "worths_told" Wa ["ground"] f fd
 al:∃f fd,jq K mg "alike" Zl ["ground","one","other"] f fd
 pa:∃f fd,jq K mg "parting" Jb ["ground","one","other"] f fd
theorem Vi {f CG:Addr} {fd:FuncData} (F:jM K "alike" "alike" Zl f fd) (h:WF K mg) (B:QJ mg) (Z:Wk K mg) (G:Qv mg) (T:QQ K mg) (M:GM K mg CG) (Y:Ux K mg) (O:Uw K mg) (A1:w5 K mg):qm P w K mg base qO 10 f fd ["ground","one","other"] (X0 CG):=by
 obtain⟨fP,fdP,hP⟩:=O.place
 obtain⟨fW,fdW,hW⟩:=A1.wt
 have GP:qm P w K mg base qO 2 fP fdP yt (zJ CG):=Ve hP.fn G M
 have GW:qm P w K mg base qO 9 fW fdW ["ground"] (Gb CG):=xv hW.fn h B Z G T M Y O
 refine F.okJ X9 (λvs H Q E h=>?_) (λcdv A outer s H vs Q E hr h0=>?_)
 . obtain⟨g,rs,x,y,rfl,_⟩:=h
   rfl
 . obtain⟨g,rs,x,y,rfl,gr,good,le14,hx,hy,q⟩:=h0
   have hu:=jV hr
   refine⟨_,qe (jz (qJ hP GP (hr.mono (by decide)) (by rfl) (qb (jv 0) (qb (jv 1) qf))))
     (qe (jz (qJ hP GP (hr.mono (by decide)) (by rfl) (qb (jv 0) (qb (jv 2) qf))))
     (qe (qw (i:=3) X9.nd rfl (Or.inl rfl) (qJ hW GW hr (by rfl) (qb (jv 0) qf)))
     (qg (qv (ju (V2 hr.units) (qL hu (jv 3) (jv 1) (λ_ _=>rfl)) (qL hu (jv 3) (jv 2) (λ_ _=>rfl)) (qy _)))))),?_⟩
   refine⟨_,rfl,_,rfl,g,rs,x,rfl,gr,List.mem_map.mp hx,λH1 s1=>?_⟩
   refine⟨_,rfl,_,rfl,g,rs,y,rfl,gr.mono s1,List.mem_map.mp hy,λH2 s2=>?_⟩
   refine⟨_,rfl,g,rs,rfl,gr.mono (s1.trans s2),good,le14,λH3 D R s3 hD wt all=>?_⟩
   obtain⟨t1,g1,ht1⟩:=wt.get hx
   obtain⟨t2,g2,ht2⟩:=wt.get hy
   refine⟨_,rfl,_,rfl,D,_,rfl,g1,_,rfl,_,rfl,D,_,rfl,g2,wD (wT rs R x),wD (wT rs R y),UC ht1,UC ht2,UB _,UB _,?_⟩
   rw[K8]
   exact q H3 R (s1.trans (s2.trans s3)) all
end
end Rh
set_option Elab.async false
set_option linter.all false
set_option maxRecDepth 100000
set_option maxHeartbeats 4000000
namespace Rh
open PySem L2 PyProof.Rows MLab Rb
def qax (rs:jt) (R:Rs Str) (x y:Str) (H:Hp) (ts:List Addr) (zs:List Str):Prop:=ts.length=zs.length/\∀(i:Nat) (t:Addr) (z:Str),ts[i]?=some t->zs[i]?=some z->H t=some (.tup (GH z (o2 rs R x z) (o2 rs R y z)))
section
variable {P:Program} {w:World} {K:PySem.W.Frag} {mg:Str->Option Value} {base:Heap}
abbrev nPt:List Str:=["ground","one","other","labels","triples"]
theorem uI:qr nPt ["ground","one","other"] (qj Jb):=⟨rfl,rfl,rfl,by decide+kernel,rfl,by decide+kernel,by decide+kernel⟩
theorem Kh {f CG:Addr} {fd:FuncData} (F:jM K "parting" "parting" Jb f fd) (h:WF K mg) (B:QJ mg) (Z:Wk K mg) (G:Qv mg) (T:QQ K mg) (M:GM K mg CG) (Y:Ux K mg) (O:Uw K mg) (A1:w5 K mg):qm P w K mg base qO 11 f fd ["ground","one","other"] (yK CG):=by
 obtain⟨fA,fdA,hA⟩:=A1.al
 obtain⟨fB,fdB,hB⟩:=Y.labels
 obtain⟨fO,fdO,hO⟩:=O.oby
 obtain⟨fC,fdC,C⟩:=M.cls
 obtain⟨fN,fdN,hN⟩:=M.nm
 have GN:qm P w K mg base qO 1 fN fdN ["self"] (QK CG):=QF hN.fn C G
 have GA:qm P w K mg base qO 10 fA fdA ["ground","one","other"] (X0 CG):=Vi hA.fn h B Z G T M Y O A1
 have GB:qm P w K mg base qO 8 fB fdB ["ground"] (Yb CG):=Xg hB.fn B G T M Y
 have GO:qm P w K mg base qO 9 fO fdO ["labels","heap"] UT:=Rz hO.fn h B Z O
 refine F.okJ uI (λvs H Q E h=>?_) (λcdv A outer s H vs Q E hr h0=>?_)
 . obtain⟨g,rs,x,y,rfl,_⟩:=h
   rfl
 . obtain⟨g,rs,x,y,rfl,gr,good,le14,hx,hy,q⟩:=h0
   have hu:=jV hr
   have r9:qW 9 _:=hr.mono (by decide)
   refine⟨_,qe (qM (jd (qJ hA GA hr (by rfl) (qb (jv 0) (qb (jv 1) (qb (jv 2) qf))))) (qg (qv Wv)) qz)
     (qe (qw (i:=3) uI.nd rfl (Or.inr rfl) (qJ hB GB (hr.mono (by decide)) (by rfl) (qb (jv 0) qf)))
     (qe (Qr (i:=4) (N':=["name","labels","one","other"]) (ix:=[none,some 3,some 1,some 2]) (te:=um (jI (qU 0) (jI (zj UT [] E0 (jI (qU 1) (jI (GU (jI (qU 2) (jI (qU 0) Zd))) Zd))) (jI (zj UT [] E0 (jI (qU 1) (jI (GU (jI (qU 3) (jI (qU 0) Zd))) Zd))) Zd)))) uI.nd rfl (Or.inl rfl) rfl ⟨rfl,rfl,rfl,rfl,rfl⟩ (qH (Xm hN C.cl GN (hr.mono (by decide)) (jv 0))) (λC s2 H2 fp pins=>
         ⟨qt (i:=0) (show (["name","labels","one","other"]:List Str).Nodup by decide+kernel) rfl (Or.inl rfl),jO,jC (qb (jv 0) (qb (qJ hO GO r9 (by rfl) (qb (jv 1) (qb (jD (qb (jv 2) (qb (jv 0) qf))) qf))) (qb (qJ hO GO r9 (by rfl) (qb (jv 1) (qb (jD (qb (jv 3) (qb (jv 0) qf))) qf))) qf)))⟩))
     (qg (qv (qZ jY (j3 (N':=["triple"]) (ix:=[none]) (tt:=Y8 (zH rNe (zH (W8 K) (qU 0) (tC (.int 1))) (zH (W8 K) (qU 0) (tC (.int 2))))) (te:=qU 0) rfl ⟨rfl,rfl,rfl,rfl,rfl⟩ (qH (jv 4)) (λC s2 H2 fp pins=>
         ⟨qt (i:=0) (RD _) rfl (Or.inl rfl),jy (qu Vb (qZ jn (jv 0) qi (λ_ _=>rfl)) (qZ jn (jv 0) qi (λ_ _=>rfl)) (qy _)),jv 0⟩)) qi (λ_ _=>rfl)))))),?_⟩
   refine⟨_,rfl,_,rfl,_,rfl,g,rs,x,y,rfl,gr,good,le14,hx,hy,λH1 R s1 all=>⟨_,rfl,?_⟩⟩
   by_cases c:wT rs R x=wT rs R y
   . exact QE (decide_eq_true c) (q H1 _ R s1 all (.inl ⟨c,rfl⟩))
   refine Qb (decide_eq_false c) ?_
   refine⟨_,rfl,g,rs,rfl,gr.mono s1,good,le14,λH2 L R2 s2 hL lb all2=>?_⟩
   obtain rfl:=All.uniq good.nd all all2
   have La:=xY (JY good.nd) all
   have s12:=s1.trans s2
   obtain⟨dx,fs,hg,l1,l2⟩:=(gr.mono s12).ins
   refine⟨_,rfl,g,dx,fs,rfl,hg,l1,g,rs,rfl,gr.mono s12,λln hln=>?_⟩
   have s3:Same H (upd H2 ln (.lst ((rs.map (·.1)).map V.str))):=s12.trans (qk hln)
   have lb3:Zs (upd H2 ln (.lst ((rs.map (·.1)).map V.str))) L rs R:=lb.mono (qk hln)
   have hl3:upd H2 ln (.lst ((rs.map (·.1)).map V.str)) ln=some (.lst ((rs.map (·.1)).map V.str)):=qd
   generalize upd H2 ln (.lst ((rs.map (·.1)).map V.str))=H3 at s3 hl3 lb3
   refine⟨ln,rfl,⟨_,.of hl3⟩,λW hW=>?_⟩
   have mk:∀{X:Hp} {a z:Str} {l:Addr},a∈rs.map (·.1)->z∈rs.map (·.1)->X l=none->Uv (upd X l (.lst [.str a,.str z])) l rs [a,z]:=λ{X a z l} ha hz hl=>⟨qd,by show 2<=8;decide,λu hu=>by
     rcases List.mem_cons.mp hu with rfl | hu
     . exact List.mem_map.mp ha
     . rw[List.mem_singleton.mp hu];exact List.mem_map.mp hz⟩
   have okz:∀{a z:Str},a∈rs.map (·.1)->z∈rs.map (·.1)->∀u∈[a,z],okW (wT rs R u):=λ{a z} ha hz u hu=>by
     rcases List.mem_cons.mp hu with rfl | hu
     . exact WN good La ha
     . rw[List.mem_singleton.mp hu];exact WN good La hz
   refine jL (K:=K) (a:=ln) (xs:=(rs.map (·.1)).map V.str) (λj σ'' X=>∃(v0:Option V) (ts:List Addr),σ''=[v0,some (.ref L),some (.str x),some (.str y)]/\Same H3 X/\X W=some (.lst (ts.map V.ref))/\qax rs R x y X ts ((rs.map (·.1)).take j))
     ⟨none,[],rfl,qk hW,qd,⟨rfl,λi t z e=>(nomatch e)⟩⟩ (λj σ'' X _ ⟨_,_,_,sx,_⟩=>.of (sx _ _ hl3)) ?_ ?_
   . rintro j u σ'' X hu' ⟨v0,ts,rfl,sx,hWX,tr⟩
     obtain⟨z,ez,hz,rfl⟩:=J1 hu'
     have hj:=(List.getElem?_eq_some_iff.mp ez).1
     rw[List.length_map]at hj
     refine⟨_,rfl,_,rfl,_,rfl,_,rfl,by show 2<=sizeLine;decide,λl1 hl1=>?_⟩
     have sa:Same X (upd X l1 (.lst [.str x,.str z])):=qk hl1
     refine⟨L,l1,rs,R,[x,z],rfl,(lb3.mono sx).mono sa,mk hx hz hl1,okz hx hz,λX2 s4=>?_⟩
     have s5:=sa.trans s4
     refine⟨_,rfl,_,rfl,_,rfl,by show 2<=sizeLine;decide,λl2 hl2=>?_⟩
     have sb:Same X2 (upd X2 l2 (.lst [.str y,.str z])):=qk hl2
     refine⟨L,l2,rs,R,[y,z],rfl,((lb3.mono sx).mono s5).mono sb,mk hy hz hl2,okz hy hz,λX3 s6=>?_⟩
     have s7:Same X X3:=s5.trans (sb.trans s6)
     refine⟨by show 3<=sizeLine;decide,λt ht=>?_⟩
     have lts:=tr.1
     rw[List.length_take]at lts
     have hW3:=s7 _ _ hWX
     have nt:t≠W:=λe=>by rw[e,hW3]at ht;cases ht
     refine⟨_,ql hW3 ht,by rw[List.length_map];exact qp (by omega),_,ts++[t],rfl,Same.upd (sx.trans (s7.trans (qk ht))) hW,by rw[List.map_append];exact qd,?_⟩
     rw[List.take_add_one,ez]
     refine⟨by rw[List.length_append,List.length_append,tr.1];rfl,λi t' z' e1 e2=>?_⟩
     rcases Qz e1 with ⟨i1,e1⟩ | ⟨i1,rfl⟩
     . rcases Qz (show ((rs.map (·.1)).take j++[z])[i]?=some z' from e2) with ⟨_,e2⟩ | ⟨i2,_⟩
       . have h1:=s7 _ _ (tr.2 i t' z' e1 e2)
         rw[qh (λe=>by rw[e,hW3]at h1;cases h1)]
         exact ql h1 ht
       . have:=tr.1;omega
     . rcases Qz (show ((rs.map (·.1)).take j++[z])[i]?=some z' from e2) with ⟨i2,_⟩ | ⟨_,rfl⟩
       . have:=tr.1;omega
       . rw[qh nt]
         exact qd
   . rintro σ'' X ⟨v0,ts,rfl,sx,hWX,tr⟩
     rw[List.length_map,List.take_of_length_le (Nat.le_refl _)]at tr
     have lt:=tr.1
     rw[List.length_map]at lt
     have ezip:(ts.zip (rs.map (·.1))).map (λp=>V.ref p.1)=ts.map V.ref:=by
       have h1:=List.map_fst_zip (l₁:=ts) (l₂:=rs.map (·.1)) (by rw[List.length_map];omega)
       have h2:(ts.zip (rs.map (·.1))).map (λp=>V.ref p.1)=((ts.zip (rs.map (·.1))).map Prod.fst).map V.ref:=by rw[List.map_map];rfl
       rw[h2,h1]
     have trz:∀p∈ts.zip (rs.map (·.1)),X p.1=some (.tup (GH p.2 (o2 rs R x p.2) (o2 rs R y p.2)))/\p.2∈rs.map (·.1):=λp hp=>by
       obtain⟨i,hi⟩:=List.getElem?_of_mem hp
       obtain⟨e1,e2⟩:=List.getElem?_zip_eq_some.mp hi
       exact⟨tr.2 i p.1 p.2 e1 e2,List.mem_of_getElem? e2⟩
     refine⟨_,rfl,W,rfl,⟨_,.of hWX⟩,λU hU=>?_⟩
     refine zg (K:=K) (a:=W) (xs:=ts.zip (rs.map (·.1))) (enc:=λp=>V.ref p.1) (out:=λp=>if o2 rs R x p.2=o2 rs R y p.2 then none else some (V.ref p.1)) (rest:=[]) hU (by rw[ezip];exact hWX) (qp (by rw[List.length_zip,List.length_map];omega)) ?_ ?_ ?_
     . intro p hp X' s5 R' kk
       have ht:=s5 _ _ (trz p hp).1
       refine⟨_,rfl,p.1,_,1,_,rfl,rfl,.of ht,rfl,_,rfl,p.1,_,2,_,rfl,rfl,.of ht,rfl,rfl,_,rfl,?_⟩
       have:=kk X' λ_ _ h=>h
       by_cases c2:o2 rs R x p.2=o2 rs R y p.2
       . rw[if_pos c2]at this
         rw[decide_eq_true (by rw[c2])]
         exact this
       . rw[if_neg c2]at this
         rw[decide_eq_false (λe=>c2 (V.str.inj e))]
         exact this
     . intro p hp v ev X' s5 R' kk
       have:v=V.ref p.1:=by
         split at ev
         . cases ev
         . exact(Option.some.inj ev).symm
       subst this
       exact⟨_,rfl,kk X' λ_ _ h=>h⟩
     . intro X4 s4 hU4
       obtain⟨z,hz,dz⟩:=u9 good La hx hy c
       have hne:(ts.zip (rs.map (·.1))).filterMap (λp=>if o2 rs R x p.2=o2 rs R y p.2 then none else some (V.ref p.1))≠[]:=λe=>by
         rw[List.filterMap_eq_nil_iff]at e
         obtain⟨i,hi⟩:=List.getElem?_of_mem hz
         have hi':=(List.getElem?_eq_some_iff.mp hi).1
         rw[List.length_map]at hi'
         obtain⟨t,et⟩:∃t,ts[i]?=some t:=⟨_,List.getElem?_eq_getElem (by omega)⟩
         have:=e (t,z) (List.mem_of_getElem? (List.getElem?_zip_eq_some.mpr ⟨et,hi⟩))
         rw[if_neg dz]at this
         cases this
       obtain⟨v,vs',ev⟩:=List.exists_cons_of_ne_nil hne
       have hv:v∈(ts.zip (rs.map (·.1))).filterMap (λp=>if o2 rs R x p.2=o2 rs R y p.2 then none else some (V.ref p.1)):=by rw[ev];exact List.mem_cons_self ..
       obtain⟨p,hp,ep⟩:=List.mem_filterMap.mp hv
       rw[ev]at hU4
       have hp2:=trz p hp
       have dp:o2 rs R x p.2≠o2 rs R y p.2:=λe=>by rw[if_pos e]at ep;cases ep
       rw[if_neg dp]at ep
       obtain rfl:=Option.some.inj ep
       refine⟨U,_,0,_,rfl,rfl,.of hU4,Zb (j:=0) rfl,q X4 _ R (s3.trans (sx.trans s4)) all (.inr ⟨c,p.1,p.2,hp2.2,dp,rfl,s4 _ _ hp2.1⟩)⟩
end
end Rh
set_option Elab.async false
set_option linter.all false
set_option maxRecDepth 100000
set_option maxHeartbeats 4000000
namespace L2
theorem qm.or {P:PySem.Program} {w:PySem.World} {K:PySem.W.Frag} {mg:PySem.Str->Option PySem.Value} {base:PySem.Heap} {CX:XB} {k:Nat} {f:PySem.Addr} {fd:PySem.FuncData} {ps:List PySem.Str} {sp sp':Sp} (a:qm P w K mg base CX k f fd ps sp) (b:qm P w K mg base CX k f fd ps sp'):qm P w K mg base CX k f fd ps (λvs H Q E=>sp vs H Q E\/sp' vs H Q E):=
 ⟨λvs H Q E h=>h.elim (a.len vs H Q E) (b.len vs H Q E),λA outer s H args us vs Q E hr he hb hv hs=>hs.elim (a.run A outer s H args us vs Q E hr he hb hv) (b.run A outer s H args us vs Q E hr he hb hv)⟩
theorem qm.up {P:PySem.Program} {w:PySem.World} {K:PySem.W.Frag} {mg:PySem.Str->Option PySem.Value} {base:PySem.Heap} {CX:XB} {k j:Nat} {f:PySem.Addr} {fd:PySem.FuncData} {ps:List PySem.Str} {sp:Sp} (a:qm P w K mg base CX k f fd ps sp) (h:k<=j):qm P w K mg base CX j f fd ps sp:=
 ⟨a.len,λA outer s H args us vs Q E hr he hb hv hs=>a.run A outer s H args us vs Q E (hr.mono h) he hb hv hs⟩
end L2
namespace Rh
open PySem L2 PyProof.Rows MLab Rb
abbrev J5:Stmt:=top 65
structure Nq (K:PySem.W.Frag) (mg:Str->Option Value) (D CP:Addr):Prop where
 nD:mg "HeapError"=some (.ref D)
 cD:K6 K D
 kp:PySem.W.kitOne K (.ref CP) (.ref CP)=some true
 spc:PySem.W.specialIn K (.builtin "object.__class__") "__get__"=some (some (.builtin "getset_descriptor.__get__"))
 tks:PySem.W.takesIn K (.builtin "object.__class__")=some true
def GD (K:PySem.W.Frag) (H:Hp) (N:List Str) (v1 v2 v:V):Prop:=(Uu K H N v1/\v=v1)\/(∃x∈N,v1=.str x/\Uu K H N v2/\v=v2)
def Xc (K:PySem.W.Frag) (CG CP:Addr):Sp:=λvs H Q E=>∃(g:Addr) (rs:jt) (v1 v2 v:V),vs=[.ref g,v1,v2]/\jQ CG H g rs/\qB rs/\GD K H (rs.map (·.1)) v1 v2 v/\∀H1 dx,Same H H1->H1 dx=some (.xd [(Str.ofString "found",v)])->E (.ref CP) (some dx) H1
section
variable {P:Program} {w:World} {K:PySem.W.Frag} {mg:Str->Option Value} {base:Heap}
theorem xM {f fQ CG D CP fP:Addr} {fd fdQ fdP:FuncData} (F:jM K "alike" "alike" Zl f fd) (G:Qv mg) (M:GM K mg CG) (hQ:jq K mg "need_place" JN yt fQ fdQ) (xP:uf K mg D "NoPlace" "NoPlace.__init__" j6 "found" CP fP fdP):qm P w K mg base (XD P w) 4 f fd ["ground","one","other"] (Xc K CG CP):=by
 have GQ1:qm P w K mg base (XD P w) 3 fQ fdQ yt (VP K CG CP):=kL hQ.fn G M xP
 have GQ2:qm P w K mg base qO 2 fQ fdQ yt (zJ CG):=Ve hQ.fn G M
 have GQ:qm P w K mg base (XD P w) 3 fQ fdQ yt (λvs H Q E=>zJ CG vs H Q E\/VP K CG CP vs H Q E):=qm.or (GQ2.up (by decide)).cx GQ1
 refine F.okX X9 (λvs H Q E h=>?_) (λcdv A outer s H vs Q E hr h=>?_)
 . obtain⟨g,rs,v1,v2,v,rfl,_⟩:=h
   rfl
 . obtain⟨g,rs,v1,v2,v,rfl,gr,good,hn,q⟩:=h
   refine⟨_,qe (jz (wj hQ GQ hr Z2 (by rfl) (qb (jv 0) (qb (jv 1) qf)))) (qe (jz (wj hQ GQ hr Z2 (by rfl) (qb (jv 0) (qb (jv 2) qf)))) qY),?_⟩
   rcases hn with ⟨hn,rfl⟩ | ⟨x,hx,rfl,hn,rfl⟩
   . exact⟨_,rfl,_,rfl,.inr ⟨g,rs,v,rfl,gr,good,hn,q⟩⟩
   . exact⟨_,rfl,_,rfl,.inl ⟨g,rs,x,rfl,gr,List.mem_map.mp hx,λH1 s1=>⟨_,rfl,_,rfl,.inr ⟨g,rs,v,rfl,gr.mono s1,good,hn.keep s1.keep,λH2 dx s2 hd=>q H2 dx (s1.trans s2) hd⟩⟩⟩⟩
theorem xz {f fA fQ CG D CP fP:Addr} {fd fdA fdQ fdP:FuncData} (F:jM K "parting" "parting" Jb f fd) (G:Qv mg) (M:GM K mg CG) (hQ:jq K mg "need_place" JN yt fQ fdQ) (hA:jq K mg "alike" Zl ["ground","one","other"] fA fdA) (xP:uf K mg D "NoPlace" "NoPlace.__init__" j6 "found" CP fP fdP):qm P w K mg base (XD P w) 5 f fd ["ground","one","other"] (Xc K CG CP):=by
 have GA:qm P w K mg base (XD P w) 4 fA fdA ["ground","one","other"] (Xc K CG CP):=xM hA.fn G M hQ xP
 refine F.okX uI (λvs H Q E h=>?_) (λcdv A outer s H vs Q E hr h=>?_)
 . obtain⟨g,rs,v1,v2,v,rfl,_⟩:=h
   rfl
 . obtain⟨g,rs,v1,v2,v,rfl,gr,good,hn,q⟩:=h
   exact⟨_,qe (qM (jd (wj hA GA hr Z2 (by rfl) (qb (jv 0) (qb (jv 1) (qb (jv 2) qf))))) qY qz) qY,_,rfl,_,rfl,_,rfl,g,rs,v1,v2,v,rfl,gr,good,hn,q⟩
def MA (K:PySem.W.Frag) (H:Hp) (v:V):Prop:=(∃d,DV K H v d/\PySem.SeqAt.shaped d=true)/\∃t b,TyOf K H v t/\PySem.W.kitOne K t (.type "bool")=some b
theorem MA.keep {H H':Hp} {v:V} (h:MA K H v) (s:Jj H H'):MA K H' v:=let ⟨⟨d,a,b⟩,t,c,e,g⟩:=h;⟨⟨d,WA s a,b⟩,t,c,Rh.TyOf.keep e s,g⟩
def Gh (K:PySem.W.Frag) (CG fA fR:Addr):Sp:=λvs H Q _=>∃(f g:Addr) (rs:jt) (v1 v2 v:V),vs=[.ref f,.ref g,v1,v2,v]/\(f=fA\/f=fR)/\jQ CG H g rs/\qB rs/\GD K H (rs.map (·.1)) v1 v2 v/\MA K H v/\∀H',Jj H H'->Q (.bl true) H'
abbrev nRf:List Str:=["_law_call","_law_ground","_law_one","_law_other","_law_due","_law_error","e"]
abbrev MH:List Str:=["_law_call","_law_ground","_law_one","_law_other","_law_due"]
theorem uH:qr nRf MH (qj J5):=⟨rfl,rfl,rfl,by decide+kernel,rfl,by decide+kernel,by decide+kernel⟩
theorem Vg {f fQ fA fR CG D CP fP:Addr} {fd fdQ fdA fdR fdP:FuncData} (F:jM K "_law_refused" "_law_refused" J5 f fd) (G:Qv mg) (T:QQ K mg) (Zk:Wk K mg) (M:GM K mg CG) (hQ:jq K mg "need_place" JN yt fQ fdQ) (hA:jq K mg "alike" Zl ["ground","one","other"] fA fdA) (hR:jq K mg "parting" Jb ["ground","one","other"] fR fdR)
   (xP:uf K mg D "NoPlace" "NoPlace.__init__" j6 "found" CP fP fdP) (Z:Nq K mg D CP):qm P w K mg base qO 6 f fd MH (Gh K CG fA fR):=by
 have GA:qm P w K mg base (XD P w) 4 fA fdA ["ground","one","other"] (Xc K CG CP):=xM hA.fn G M hQ xP
 have GR:qm P w K mg base (XD P w) 5 fR fdR ["ground","one","other"] (Xc K CG CP):=xz hR.fn G M hQ hA xP
 refine F.okJ uH (λvs H Q E h=>?_) (λcdv A outer s H vs Q E hr h=>?_)
 . obtain⟨f,g,rs,v1,v2,v,rfl,_⟩:=h
   rfl
 . obtain⟨f,g,rs,v1,v2,v,rfl,hf,gr,good,hn,hd,q⟩:=h
   have r4:qW 4 _:=hr.mono (by decide)
   refine⟨_,qe (qw (i:=5) uH.nd rfl (Or.inl rfl) Wv)
     (qe (RQ rfl rfl (λpn W E hE=>qg (jz (wo (i:=0) (C:=λf sp=>(f=fA\/f=fR)/\sp=Xc K CG CP) rfl (.inl rfl) (λf sp c=>by
           obtain⟨c,rfl⟩:=c
           rcases c with rfl | rfl
           . exact⟨4,_,_,GA,r4,hA.fn.kp,hA.bi⟩
           . exact⟨5,_,_,GR,hr,hR.fn.kp,hR.bi⟩) hE (qb (jv 1) (qb (jv 2) (qb (jv 3) qf))))))
       (wa (j:=6) (ts:=ut (qU 6) (QP 5)) (by rfl) Z.nD Z.cD uH.nd rfl rfl (λv E=>qg (qw (i:=5) uH.nd rfl (Or.inl rfl) (jv 6))) x9))
     (qe (qM (j9 (jd (qA (VB (bm:=.ref D::Qq) Z.spc Z.tks) (by rfl) T.isi boot_isinstance (qb (jv 5) (qb (QD (v:=.ref CP) (by rfl) xP.ns rfl) qf))))) (qg (qv jG)) qz)
     (qg (qv (JU (ju (xr hr.units) (vw (bm:=.ref D::Qq) (jv 5) rfl) (jv 4) (qy _)) (Z9 (ju Qe (qA ji (by rfl) T.isi boot_isinstance (qb (vw (bm:=.ref D::Qq) (jv 5) rfl) (qb (Qn (v:=.ty "bool") (by rfl) Zk.bool boot_bool rfl) qf))) (qA ji (by rfl) T.isi boot_isinstance (qb (jv 4) (qb (Qn (v:=.ty "bool") (by rfl) Zk.bool boot_bool rfl) qf))) (qy _)))))))),?_⟩
   refine⟨λC dx Hx=>C=CP/\Same H Hx/\Hx dx=some (.xd [(Str.ofString "found",v)]),⟨f,_,rfl,⟨hf,rfl⟩,_,rfl,_,rfl,_,rfl,g,rs,v1,v2,v,rfl,gr,good,hn,λH1 dx s1 h1=>⟨rfl,CP,dx,rfl,rfl,rfl,s1,h1⟩⟩,?_⟩
   rintro a C dx T' Hx H' ⟨rfl,sx,hdx⟩ ha kp ha'
   have nda:dx≠a:=λz=>by
     rw[z,ha]at hdx
     cases hdx
   have hdx':=kp dx _ nda hdx
   have k1:Jj H H':=λb o hb nx=>kp b o (λz=>by
     rw[z]at hb
     have:=sx _ _ hb
     rw[ha]at this
     exact nx _ (Option.some.inj this).symm) (sx _ _ hb)
   have lk:([(Str.ofString "found",v)]:List (Str×V)).lookup (Str.ofString "found")=some v:=by simp [List.lookup]
   obtain⟨⟨d,dv,sh⟩,t,b,ty,kb⟩:=hd.keep k1
   refine⟨fP,_,xP.mkr,?_⟩
   rw[if_pos (by simp [List.contains_cons])]
   refine⟨_,rfl,?_⟩
   refine⟨_,rfl,a,C,dx,_,_,.ref C,true,rfl,rfl,ha',hdx',xP.cls,Z.kp,_,rfl,jf ?_⟩
   refine⟨_,rfl,a,C,dx,_,_,v,rfl,ha',hdx',xP.cls,xP.na,lk,_,rfl,d,dv,dv,sh,_,rfl,jP ?_⟩
   refine⟨_,rfl,a,C,dx,_,_,v,rfl,ha',hdx',xP.cls,xP.na,lk,_,_,t,b,rfl,rfl,ty,kb,_,rfl,_,_,t,b,rfl,rfl,ty,kb,rfl,?_⟩
   rw[decide_eq_true rfl]
   exact q _ k1
end
end Rh
set_option Elab.async false
set_option linter.all false
set_option maxRecDepth 100000
set_option maxHeartbeats 4000000
namespace Rh
open PySem L2 PyProof.Rows MLab Rb
abbrev We:Stmt:=top 66
def UX (CG:Addr):Sp:=λvs H Q _=>∃(g D:Addr) (rs:jt) (F:Str->W) (x y:Str),vs=[.ref g,.ref D,.str x,.str y]/\jQ CG H g rs/\qB rs/\rs.length<=14/\z5 H D F (rs.map (·.1))/\(∀R,All (Js rs) (rs.map (·.1)) 0 [] R->∀z∈rs.map (·.1),F z=wT rs R z)/\x∈rs.map (·.1)/\y∈rs.map (·.1)/\∀H',Same H H'->Q (.bl true) H'
theorem vh (u:W):PyData.strOk (Zn u)=true:=by
 have h1:PyData.strOk (Str.ofString "lost")=true:=by decide+kernel
 have h2:PyData.strOk (Str.ofString "won")=true:=by decide+kernel
 have h3:PyData.strOk (Str.ofString "drawn")=true:=by decide+kernel
 cases u with
 | num n=>
   show PyData.strOk (if n=0 then (Str.ofString "lost") else (Str.ofString "won"))=true
   split
   . exact h1
   . exact h2
 | edl b=>
   show PyData.strOk (if b.testBit 0=true then (Str.ofString "won") else (Str.ofString "drawn"))=true
   split
   . exact h2
   . exact h3
theorem MX {a b:Str} (h:PyData.strOk a=true) (k:PyData.strOk b=true):PySem.SeqAt.shaped (.tuple [.str a,.str b])=true:=by
 unfold PySem.SeqAt.shaped
 simp only[PyData.canLay0,PyData.canLayAll0,h,k,PyData.depth,PyData.depthAll]
 rfl
structure Nt (K:PySem.W.Frag) (mg:Str->Option Value):Prop where
 gets:∃f fd,jq K mg "_law_gets" Yn N5 f fd
 worths:∃f fd,jq K mg "_law_worths" ZB ["_law_rows_here"] f fd
 total:∃f fd,jq K mg "_law_total" Wb ["_law_worths_here"] f fd
 lo:∃f fd,jq K mg "_law_outcome" MG ["_law_worth"] f fd
section
variable {P:Program} {w:World} {K:PySem.W.Frag} {mg:Str->Option Value} {base:Heap}
abbrev nPr:List Str:=["_law_ground","_law_worths_here","_law_one","_law_other","_law_same","_law_found","_law_told","_law_first"]
abbrev MI:List Str:=["_law_ground","_law_worths_here","_law_one","_law_other"]
theorem yW:qr nPr MI (qj We):=⟨rfl,rfl,rfl,by decide+kernel,rfl,by decide+kernel,by decide+kernel⟩
theorem xD {f CG:Addr} {fd:FuncData} (F:jM K "_law_pair_right" "_law_pair_right" We f fd) (h:WF K mg) (B:QJ mg) (Z:Wk K mg) (kbb:PySem.W.kitOne K (.type "bool") (.type "bool")=some true) (G:Qv mg) (T:QQ K mg) (M:GM K mg CG) (Y:Ux K mg) (O:Uw K mg) (A1:w5 K mg) (W1:Nt K mg):qm P w K mg base qO 12 f fd MI (UX CG):=by
 obtain⟨fA,fdA,hA⟩:=A1.al
 obtain⟨fR,fdR,hR⟩:=A1.pa
 obtain⟨fT,fdT,hT⟩:=W1.total
 obtain⟨fL,fdL,hL⟩:=W1.lo
 have GA:qm P w K mg base qO 10 fA fdA ["ground","one","other"] (X0 CG):=Vi hA.fn h B Z G T M Y O A1
 have GR:qm P w K mg base qO 11 fR fdR ["ground","one","other"] (yK CG):=Kh hR.fn h B Z G T M Y O A1
 have GT:qm P w K mg base qO 1 fT fdT ["_law_worths_here"] Gd:=xw hT.fn B T
 have GL:qm P w K mg base qO 1 fL fdL ["_law_worth"] NO:=N7 hL.fn B
 refine F.okJ yW (λvs H Q E h=>?_) (λcdv A outer s H vs Q E hr h0=>?_)
 . obtain⟨g,D,rs,R,x,y,rfl,_⟩:=h
   rfl
 . obtain⟨g,D,rs,F0,x,y,rfl,gr,good,le14,wt0,hF,hx,hy,q⟩:=h0
   have hu:=jV hr
   have r1:qW 1 _:=hr.mono (by decide)
   have r10:qW 10 _:=hr.mono (by decide)
   refine⟨_,qe (qw (i:=4) yW.nd rfl (Or.inl rfl) (ju (V2 hr.units) (qL hu (jv 1) (jv 2) (λ_ _=>rfl)) (qL hu (jv 1) (jv 3) (λ_ _=>rfl)) (qy _)))
     (qe (qw (i:=5) yW.nd rfl (Or.inl rfl) (qJ hA GA r10 (by rfl) (qb (jv 0) (qb (jv 2) (qb (jv 3) qf)))))
     (qe (qw (i:=6) yW.nd rfl (Or.inl rfl) (qJ hR GR hr (by rfl) (qb (jv 0) (qb (jv 2) (qb (jv 3) qf)))))
     (qe (qM (JW.pt (QO (j9 (jd (qA ji (by rfl) T.isi boot_isinstance (qb (jv 5) (qb (Qn (v:=.ty "bool") (by rfl) Z.bool boot_bool rfl) qf))))) (Qh (qu Vb (jv 5) (jv 4) (qy _))))) (qg (qv jG)) qz)
     (qe (qM (jd (jv 4)) (qg (qv (ju Rv (jv 6) Wv (qy _)))) qz)
     (qe (qM (JW.pt (QO (j9 (jd (qA ji (by rfl) T.isi boot_isinstance (qb (jv 6) (qb (Qn (v:=.ty "tuple") (by rfl) G.tup boot_tuple rfl) qf))))) (QO (qu Vb (qA qP (by rfl) B.len boot_len (qb (jv 6) qf)) qi (qy _)) (QO (Qa (QH hu (qZ jn (jv 6) qi (λ_ _=>rfl)) (jv 1))) (Qh (qu Qe (qZ jn (jv 6) qi (λ_ _=>rfl)) (qZ jn (jv 6) qi (λ_ _=>rfl)) (qy _))))))) (qg (qv jG)) qz)
     (qe (qw (i:=7) yW.nd rfl (Or.inl rfl) (qJ hL GL r1 (by rfl) (qb (qJ hT GT r1 (by rfl) (qb (jD (qb (qL hu (jv 1) (jv 2) (λ_ _=>rfl)) (qb (qL hu (jv 1) (qZ jn (jv 6) qi (λ_ _=>rfl)) (λ_ _=>rfl)) qf))) qf)) qf)))
     (qg (qv (ju (xr hr.units) (JR uC (jv 6) (ZJ qi) ZK) (jC (qb (jv 7) (qb (qJ hL GL r1 (by rfl) (qb (qJ hT GT r1 (by rfl) (qb (jD (qb (qL hu (jv 1) (jv 3) (λ_ _=>rfl)) (qb (qL hu (jv 1) (qZ jn (jv 6) qi (λ_ _=>rfl)) (λ_ _=>rfl)) qf))) qf)) qf)) qf))) (qy _)))))))))),?_⟩
   obtain⟨t1,g1,ht1⟩:=wt0.get hx
   obtain⟨t2,g2,ht2⟩:=wt0.get hy
   refine⟨_,rfl,_,rfl,D,_,rfl,g1,_,rfl,_,rfl,D,_,rfl,g2,wD (F0 x),wD (F0 y),UC ht1,UC ht2,UB _,UB _,?_⟩
   rw[K8]
   refine⟨_,rfl,_,rfl,_,rfl,g,rs,x,y,rfl,gr,good,le14,hx,hy,λH1 R s1 all=>?_⟩
   have La:=xY (JY good.nd) all
   have wt:=wt0.congr (hF R all)
   rw[hF R all x hx,hF R all y hy]
   refine⟨_,rfl,_,rfl,_,rfl,g,rs,x,y,rfl,gr.mono s1,good,le14,hx,hy,λH2 v R2 s2 all2 hv=>?_⟩
   obtain rfl:=All.uniq good.nd all all2
   have s12:=s1.trans s2
   refine⟨_,rfl,_,_,_,_,rfl,rfl,.bl _,kbb,_,rfl,jf ?_⟩
   refine⟨_,rfl,_,rfl,rfl,_,rfl,?_⟩
   rw[decide_eq_true rfl]
   refine jf ?_
   rcases hv with ⟨c,rfl⟩ | ⟨c,t,z,hz,dz,rfl,ht⟩
   . refine⟨_,rfl,_,rfl,QE (decide_eq_true c) ⟨_,rfl,rfl,?_⟩⟩
     rw[decide_eq_true rfl]
     exact q H2 s12
   . refine⟨_,rfl,_,rfl,Qb (decide_eq_false c) ?_⟩
     obtain⟨t3,g3,ht3⟩:=(wt.mono s12).get hz
     refine⟨_,rfl,_,_,_,_,rfl,rfl,.tup ht,T.ktt,_,rfl,jf ?_⟩
     refine⟨_,rfl,t,_,rfl,.inr (.of ht),rfl,_,rfl,Qb (show (!decide (V.int ((3:Nat):Int)=V.int 3))=false by decide+kernel) ?_⟩
     refine⟨_,rfl,t,_,0,_,rfl,rfl,.of ht,rfl,_,rfl,D,_,rfl,g3,_,rfl,jf ?_⟩
     refine⟨_,rfl,t,_,1,_,rfl,rfl,.of ht,rfl,_,rfl,t,_,2,_,rfl,rfl,.of ht,rfl,rfl,_,rfl,Qb (decide_eq_false λe=>dz (V.str.inj e)) ?_⟩
     have tot:∀{X:Hp} {a:Str} {ta:Addr} {l:Addr},a∈rs.map (·.1)->X ta=some (.tup (tW (wT rs R a)))->X t3=some (.tup (tW (wT rs R z)))->X l=none->Tl (upd X l (.lst [.ref ta,.ref t3])) [ta,t3] [wT rs R a,wT rs R z]:=λ{X a ta l} ha h1 h2 hl=>⟨rfl,λi p u e1 e2=>by
       match i,e1,e2 with
       | 0,e1,e2=>cases e1;cases e2;exact ql h1 hl
       | 1,e1,e2=>cases e1;cases e2;exact ql h2 hl
       | n+2,e1,e2=>simp at e1⟩
     have okz:∀{a:Str},a∈rs.map (·.1)->∀u∈[wT rs R a,wT rs R z],okW u:=λ{a} ha u hu=>by
       rcases List.mem_cons.mp hu with rfl | hu
       . exact WN good La ha
       . rw[List.mem_singleton.mp hu];exact WN good La hz
     obtain⟨t1',g1',ht1'⟩:=(wt.mono s12).get hx
     refine⟨_,rfl,_,rfl,D,_,rfl,g1',_,rfl,_,rfl,t,_,0,_,rfl,rfl,.of ht,rfl,D,_,rfl,g3,by show 2<=sizeLine;decide,λl hl=>?_⟩
     have sl:Same H2 (upd H2 l (.lst [.ref t1',.ref t3])):=qk hl
     refine⟨l,[t1',t3],[wT rs R x,wT rs R z],rfl,qd,tot hx ht1' ht3 hl,okz hx,by show 2<=8;decide,λH3 p s3 hp=>?_⟩
     refine⟨p,_,rfl,hp,λH4 s4=>?_⟩
     have s24:Same H2 H4:=sl.trans (s3.trans s4)
     have ht4:=s24 _ _ ht
     refine⟨_,rfl,1,rfl,.inl ⟨t,_,rfl,.of ht4,(show ¬(HT.sIx 3 0 (some 1)=0/\HT.sIx 3 3 none=3) by decide+kernel),λp2 hp2=>?_⟩⟩
     have s5:Same H4 (upd H4 p2 (.tup [.str (o2 rs R x z),.str (o2 rs R y z)])):=qk hp2
     have hp5:upd H4 p2 (.tup [.str (o2 rs R x z),.str (o2 rs R y z)]) p2=some (.tup [.str (o2 rs R x z),.str (o2 rs R y z)]):=qd
     show (um _) _ (upd H4 p2 (.tup [.str (o2 rs R x z),.str (o2 rs R y z)])) _
     generalize upd H4 p2 (.tup [.str (o2 rs R x z),.str (o2 rs R y z)])=H5 at s5 hp5
     have s25:=s24.trans s5
     obtain⟨t2',g2',ht2'⟩:=((wt.mono s12).mono s25).get hy
     obtain⟨t3',g3',ht3'⟩:=((wt.mono s12).mono s25).get hz
     have tot2:∀{l:Addr},H5 l=none->Tl (upd H5 l (.lst [.ref t2',.ref t3'])) [t2',t3'] [wT rs R y,wT rs R z]:=λ{l} hl=>⟨rfl,λi p u e1 e2=>by
       match i,e1,e2 with
       | 0,e1,e2=>cases e1;cases e2;exact ql ht2' hl
       | 1,e1,e2=>cases e1;cases e2;exact ql ht3' hl
       | n+2,e1,e2=>simp at e1⟩
     refine⟨_,rfl,_,rfl,_,rfl,D,_,rfl,g2',_,rfl,_,rfl,t,_,0,_,rfl,rfl,.of (s25 _ _ ht),rfl,D,_,rfl,g3',by show 2<=sizeLine;decide,λl2 hl2=>?_⟩
     have sl2:Same H5 (upd H5 l2 (.lst [.ref t2',.ref t3'])):=qk hl2
     refine⟨l2,[t2',t3'],[wT rs R y,wT rs R z],rfl,qd,tot2 hl2,okz hy,by show 2<=8;decide,λH6 p3 s6 hp3=>?_⟩
     refine⟨p3,_,rfl,hp3,λH7 s7=>⟨by show 2<=sizeLine;decide,λt4 ht4=>?_⟩⟩
     have s57:Same H5 H7:=sl2.trans (s6.trans s7)
     refine⟨.tuple [.str (o2 rs R x z),.str (o2 rs R y z)],.tup (.of (ql (s57 _ _ hp5) ht4)) (.cons (.str _) (.cons (.str _) .nil)),.tup (.of (show upd H7 t4 _ t4=some (.tup [.str (o2 rs R x z),.str (o2 rs R y z)]) from qd)) (.cons (.str _) (.cons (.str _) .nil)),MX (vh _) (vh _),?_⟩
     exact q _ (s12.trans (s25.trans (s57.trans (qk ht4))))
end
end Rh
set_option Elab.async false
set_option linter.all false
set_option maxRecDepth 100000
set_option maxHeartbeats 4000000
namespace Rh
open PySem L2 PyProof.Rows MLab Rb
def UW (K:PySem.W.Frag):Sp:=λvs H Q _=>∃(a:Addr) (ns:List Int),vs=[.ref a]/\SqL K H a (ns.map V.int)/\ns.length<=63/\∀H',Q (.bl true) H'
structure My (K:PySem.W.Frag) (mg:Str->Option Value):Prop where
 cell:∃f fd,jq K mg "_law_cell_at" U9 ["_law_script","_law_k"] f fd
 source:∃f fd,jq K mg "_law_source" zN ["_law_cell"] f fd
 take:∃f fd,jq K mg "_law_take" Yg ["_law_source_here","_law_many"] f fd
 names:∃f fd,jq K mg "_law_names" Yj ["_law_source_here","_law_many"] f fd
 leads:∃f fd,jq K mg "_law_leads" Ym Yx f fd
 rows:∃f fd,jq K mg "_law_rows" U4 ["_law_source_here","_law_most"] f fd
 need:∃f fd,jq K mg "need_rows" W2 ["rows"] f fd
 pair:∃f fd,jq K mg "_law_pair_right" We MI f fd
 refd:∃f fd,jq K mg "_law_refused" J5 MH f fd
structure w4 (K:PySem.W.Frag):Prop where
 n:PySem.W.kitOne K (.type "NoneType") (.type "bool")=some false
 s:PySem.W.kitOne K (.type "str") (.type "bool")=some false
 i:PySem.W.kitOne K (.type "int") (.type "bool")=some false
 b:PySem.W.kitOne K (.type "bool") (.type "bool")=some true
 l:PySem.W.kitOne K (.type "list") (.type "bool")=some false
 t:PySem.W.kitOne K (.type "tuple") (.type "bool")=some false
def Nv (K:PySem.W.Frag) (H:Hp) (N:List Str) (v:V):Prop:=Uu K H N v/\MA K H v
theorem Nv.keep {K:PySem.W.Frag} {H H':Hp} {N:List Str} {v:V} (h:Nv K H N v) (s:Jj H H'):Nv K H' N v:=⟨h.1.keep s,h.2.keep s⟩
theorem vK {K:PySem.W.Frag} (S:w4 K) {H:Hp} {N:List Str} {w:Str} (ok:PyData.strOk w=true) (nw:jo w=false) (hN:∀z∈N,jo z=true):Nv K H N (.str w):=by
 refine⟨.inl ⟨.str w,.str w,ok,Nat.zero_le _,λz hz=>?_⟩,⟨.str w,.str w,?_⟩,_,false,.str w,S.s⟩
 . show (z==w)=false
   rw[beq_eq_false_iff_ne]
   intro e
   have:=hN z hz
   rw[e,nw]at this
   cases this
 . unfold PySem.SeqAt.shaped
   simp only[PyData.canLay0,ok,PyData.depth]
   rfl
theorem KY {K:PySem.W.Frag} (S:w4 K) {H:Hp} {N:List Str} {z:Str} {t:Addr} (h:H t=some (.tup [.str z])) (hz:jo z=true):Nv K H N (.ref t):=by
 have dv:DV K H (.ref t) (.tuple [.str z]):=.tup (.of h) (.cons (.str z) .nil)
 refine⟨.inl ⟨_,dv,?_,?_,λy _=>rfl⟩,⟨_,dv,?_⟩,_,false,.tup h,S.t⟩
 . simp only[PyData.canLay0,PyData.canLayAll0,ZG hz]
   rfl
 . simp only[PyData.depth,PyData.depthAll]
   decide
 . unfold PySem.SeqAt.shaped
   simp only[PyData.canLay0,PyData.canLayAll0,ZG hz,PyData.depth,PyData.depthAll]
   rfl
theorem KZ {K:PySem.W.Frag} (S:w4 K) {H:Hp} {N:List Str} {z:Str} {t:Addr} (h:H t=some (.lst [.str z])) (hz:jo z=true):Nv K H N (.ref t):=by
 have dv:DV K H (.ref t) (.list [.str z]):=.lst (.of h) (.cons (.str z) .nil)
 refine⟨.inl ⟨_,dv,?_,?_,λy _=>rfl⟩,⟨_,dv,?_⟩,_,false,.lst h,S.l⟩
 . simp only[PyData.canLay0,PyData.canLayAll0,ZG hz]
   rfl
 . simp only[PyData.depth,PyData.depthAll]
   decide
 . unfold PySem.SeqAt.shaped
   simp only[PyData.canLay0,PyData.canLayAll0,ZG hz,PyData.depth,PyData.depthAll]
   rfl
theorem UN {n s t:Int} {k:qE} {v:V} (h:ja (src n s t) k=some v):∃i,v=.int i:=by
 obtain⟨p,hp,e⟩:=Option.map_eq_some_iff.mp h
 have:=List.mem_of_find?_eq_some hp
 unfold src at this
 simp only[List.mem_cons,List.mem_nil_iff,or_false]at this
 rcases this with rfl | rfl | rfl<;>exact⟨_,e.symm⟩
theorem jQ.src {CG:Addr} {H H':Hp} {a d:Addr} {rs:jt} {n s t:Int} (h:jQ CG H a rs) (pos:0 < rs.length) (hd:H d=some (.dK (src n s t))) (f:Fr H d H'):jQ CG H' a rs:=by
 obtain⟨dx,lo,rd,kvs,e1,e2,e3,e4⟩:=h
 refine⟨dx,lo,rd,kvs,f _ _ e1 (λz=>by rw[z,hd]at e1;cases e1),f _ _ e2 (λz=>by rw[z,hd]at e2;cases e2),f _ _ e3 (λz=>?_),λr hr=>let ⟨q,a1,a2⟩:=e4 r hr;⟨q,a1,f _ _ a2 (λz=>by rw[z,hd]at a2;cases a2)⟩⟩
 rw[z,hd]at e3
 have e5:=HO.dK.inj (Option.some.inj e3)
 obtain⟨r0,er⟩:∃r,rs[0]?=some r:=⟨_,List.getElem?_eq_getElem pos⟩
 obtain⟨q,a1,_⟩:=e4 r0 (List.mem_of_getElem? er)
 rw[<-e5]at a1
 obtain⟨i,e6⟩:=UN a1
 cases e6
theorem z5.src {H H':Hp} {D d:Addr} {F:Str->W} {zs:List Str} {n s t:Int} (h:z5 H D F zs) (pos:0 < zs.length) (hd:H d=some (.dK (Rh.src n s t))) (f:Fr H d H'):z5 H' D F zs:=by
 obtain⟨kvs,a,b,c⟩:=h.at_
 refine⟨kvs,f _ _ a (λz=>?_),b,λz hz=>let ⟨t,u,v⟩:=c z hz;⟨t,u,f _ _ v (λe=>by rw[e,hd]at v;cases v)⟩⟩
 rw[z,hd]at a
 have e5:=HO.dK.inj (Option.some.inj a)
 obtain⟨r0,er⟩:∃r,zs[0]?=some r:=⟨_,List.getElem?_eq_getElem pos⟩
 obtain⟨q,a1,_⟩:=c r0 (List.mem_of_getElem? er)
 rw[<-e5]at a1
 obtain⟨i,e6⟩:=UN a1
 cases e6
theorem G8 {K:PySem.W.Frag} {H H':Hp} {a d:Addr} {xs:List V} {kvs:List (qE×V)} (h:SqL K H a xs) (hd:H d=some (.dK kvs)) (f:Fr H d H'):SqL K H' a xs:=by
 rcases h with (h | ⟨o,h⟩) | h
 . exact .inl (.inl (f _ _ h (λz=>by rw[z,hd]at h;cases h)))
 . exact .inl (.inr ⟨o,f _ _ h (λz=>by rw[z,hd]at h;cases h)⟩)
 . exact .inr h
theorem Mf {r:Int} (h0:0<=r) (h1:r < 4):∃mo:Nat,vM [V.int 5,.int 7,.int 9,.int 14] r=some (.int (mo:Int))/\0 < mo/\mo<=14:=by
 have:r=0\/r=1\/r=2\/r=3:=by omega
 rcases this with rfl | rfl | rfl | rfl
 . exact⟨5,rfl,by decide,by decide⟩
 . exact⟨7,rfl,by decide,by decide⟩
 . exact⟨9,rfl,by decide,by decide⟩
 . exact⟨14,rfl,by decide,by decide⟩
end Rh
set_option Elab.async false
set_option linter.all false
set_option maxRecDepth 100000
set_option maxHeartbeats 4000000
namespace Rh
open PySem L2 PyProof.Rows MLab Rb
theorem kS {H2:Hp} {l:Addr} {ps:List Addr} {rs:jt} {CG:Addr} {R:Hp->Prop} (hl2:H2 l=some (.lst (ps.map V.ref))) (rat:jE H2 ps rs) (good:qB rs) (pos:0 < rs.length) (le14:rs.length<=14)
   {l2:Addr} (hl2':H2 l2=none) {x dx:Addr} (hx:upd H2 l2 (.lst (ps.map V.ref)) x=none) (hdx:upd H2 l2 (.lst (ps.map V.ref)) dx=none) (ndx:dx≠x) {E:XK} (k:∀H4,Same H2 H4->jQ CG H4 x rs->R H4):
   XY CG [.ref x,.ref l2] (upd (upd (upd H2 l2 (.lst (ps.map V.ref))) dx (.own x)) x (.ins CG dx [])) (λv H'=>v=.non/\R H') E:=by
 have hx2:H2 x=none:=by
   by_cases e:x=l2
   . rw[e,qd]at hx;cases hx
   . rw[qh e]at hx;exact hx
 have hdx2:H2 dx=none:=by
   by_cases e:dx=l2
   . rw[e,qd]at hdx;cases hdx
   . rw[qh e]at hdx;exact hdx
 have s3:Same H2 (upd (upd (upd H2 l2 (.lst (ps.map V.ref))) dx (.own x)) x (.ins CG dx [])):=λb u hb=>by
   rw[qh (qo hb hx2),qh (qo hb hdx2),qh (qo hb hl2')]
   exact hb
 have hl3:upd (upd (upd H2 l2 (.lst (ps.map V.ref))) dx (.own x)) x (.ins CG dx []) l2=some (.lst (ps.map V.ref)):=by
   have n1:l2≠x:=λe=>by rw[<-e,qd]at hx;cases hx
   have n2:l2≠dx:=λe=>by rw[<-e,qd]at hdx;cases hdx
   rw[qh n1,qh n2]
   exact qd
 refine⟨x,dx,l2,ps,rs,rfl,⟨hl3,rat.mono s3,good,pos,le14⟩,qd,λH4 gr fr4=>⟨rfl,k H4 (λb u hb=>fr4 b u (s3 _ _ hb) (qo hb hx2)) gr⟩⟩
section
variable {P:Program} {w:World} {K:PySem.W.Frag} {mg:Str->Option Value} {base:Heap}
abbrev qai:List Str:=["_law_script","_law_k","_law_source_here","_law_rows_here","_law_ground","_law_worths_here","_law_names_here","_law_turn","_law_one","_law_other","_law_bad","_law_call"]
theorem Jy:qr qai ["_law_script"] (qj Wd):=⟨rfl,rfl,rfl,by decide+kernel,rfl,by decide+kernel,by decide+kernel⟩
theorem RA {f CG D CP fP:Addr} {fd fdP:FuncData} (F:jM K "law" "law" Wd f fd) (h:WF K mg) (B:QJ mg) (Zk:Wk K mg) (G:Qv mg) (T:QQ K mg) (S:w4 K) (N:K4 K mg) (M:GM K mg CG) (Y:Ux K mg) (O:Uw K mg) (A1:w5 K mg) (W1:Nt K mg) (Z:My K mg) (hdi:mg "dict"=none)
   (xP:uf K mg D "NoPlace" "NoPlace.__init__" j6 "found" CP fP fdP) (ZE:Nq K mg D CP):qm P w K mg base qO 13 f fd ["_law_script"] (UW K):=by
 obtain⟨fO,fdO,hO⟩:=Z.cell
 obtain⟨fL,fdL,hL⟩:=Z.source
 obtain⟨fT,fdT,hT⟩:=Z.take
 obtain⟨fN,fdN,hN⟩:=Z.names
 obtain⟨fD,fdD,hD⟩:=Z.leads
 obtain⟨fR,fdR,hR⟩:=Z.rows
 obtain⟨fW,fdW,hW⟩:=Z.need
 obtain⟨f1,fd1,h1⟩:=Z.pair
 obtain⟨f2,fd2,h2⟩:=Z.refd
 obtain⟨f3,fd3,h3⟩:=W1.worths
 obtain⟨f4,fd4,h4⟩:=W1.gets
 obtain⟨f5,fd5,h5⟩:=A1.al
 obtain⟨f6,fd6,h6⟩:=A1.pa
 obtain⟨f7,fd7,h7⟩:=O.place
 obtain⟨fI,fdI,C⟩:=M.cls
 have GO:qm P w K mg base qO 1 fO fdO ["_law_script","_law_k"] (yQ K):=Kp hO.fn B
 have GL:qm P w K mg base qO 1 fL fdL ["_law_cell"] WY:=kK hL.fn B
 have GT:qm P w K mg base qO 1 fT fdT ["_law_source_here","_law_many"] Ya:=zQ hT.fn
 have GR:qm P w K mg base qO 3 fR fdR ["_law_source_here","_law_most"] yJ:=Kg hR.fn B G hT hN hD
 have GI:qm P w K mg base qO 6 fI fdI ["self","rows"] (XY CG):=xJ C B G T N hW
 have G1:qm P w K mg base qO 12 f1 fd1 MI (UX CG):=xD h1.fn h B Zk S.b G T M Y O A1 W1
 have G2:qm P w K mg base qO 6 f2 fd2 MH (Gh K CG f5 f6):=Vg h2.fn G T Zk M h7 h5 h6 xP ZE
 have G3:qm P w K mg base qO 2 f3 fd3 ["_law_rows_here"] Gg:=V3 h3.fn B T hdi h4
 refine F.okJ Jy (λvs H Q E z=>?_) (λcdv A outer s H vs Q E hr z=>?_)
 . obtain⟨a,ns,rfl,_⟩:=z
   rfl
 . obtain⟨a,ns,rfl,hq,hlen,k⟩:=z
   have hu:=jV hr
   have r1:qW 1 _:=hr.mono (by decide)
   have r2:qW 2 _:=hr.mono (by decide)
   have r3:qW 3 _:=hr.mono (by decide)
   have r6:qW 6 _:=hr.mono (by decide)
   have r7:qW 7 _:=hr.mono (by decide)
   refine⟨_,qe (jc PassesOwn.never rfl (jp (by rfl) B.rng (qb (qA (Xq rfl) (by rfl) B.max boot_max (qb qi (qb (qA (yp rfl) (by rfl) B.min boot_min (qb qi (qb (qA qP (by rfl) B.len boot_len (qb (jv 0) qf)) qf))) qf))) qf))
       (qt (i:=1) Jy.nd rfl (Or.inl rfl))
       (qe (qw (i:=2) Jy.nd rfl (Or.inl rfl) (qJ hL GL r1 (by rfl) (qb (qJ hO GO r1 (by rfl) (qb (jv 0) (qb (jv 1) qf))) qf)))
       (qe (qw (i:=3) Jy.nd rfl (Or.inl rfl) (qJ hR GR r3 (by rfl) (qb (jv 2) (qb (qZ jY (jD (qb qi (qb qi (qb qi (qb qi qf))))) (qJ hT GT r1 (by rfl) (qb (jv 2) (qb qi qf))) (λ_ _=>rfl)) qf))))
       (qe (qw (i:=4) Jy.nd rfl (Or.inl rfl) (Jq C.mkr GI r7 (by rfl) C.ns C.bi .nil QL (qb (j4 Ju (by rfl) G.lst boot_list (qb (jv 3) qf)) qf)))
       (qe (qw (i:=5) Jy.nd rfl (Or.inl rfl) (qJ h3 G3 r2 (by rfl) (qb (jv 3) qf)))
       (qe (Qr (i:=6) (N':=["_law_row"]) (ix:=[none]) (te:=zH (W8 K) (qU 0) (tC (.int 0))) Jy.nd rfl (Or.inl rfl) rfl ⟨rfl,rfl,rfl,rfl,rfl⟩ (qH (jv 3)) (λC s2 H2 fp pins=>
         ⟨qt (i:=0) (RD _) rfl (Or.inl rfl),jO,qZ jn (jv 0) qi (λ_ _=>rfl)⟩))
       (qe (jc PassesOwn.never rfl (jp (by rfl) B.rng (qb (qN Q0 qi (qJ hT GT r1 (by rfl) (qb (jv 2) (qb qi qf)))) qf)) (qt (i:=7) Jy.nd rfl (Or.inl rfl))
         (qe (qw (i:=8) Jy.nd rfl (Or.inl rfl) (qZ jY (jv 6) (qJ hT GT r1 (by rfl) (qb (jv 2) (qb (qA qP (by rfl) B.len boot_len (qb (jv 6) qf)) qf))) (λ_ _=>rfl)))
         (qe (qw (i:=9) Jy.nd rfl (Or.inl rfl) (qZ jY (jv 6) (qJ hT GT r1 (by rfl) (qb (jv 2) (qb (qA qP (by rfl) B.len boot_len (qb (jv 6) qf)) qf))) (λ_ _=>rfl)))
         (qg (qM (JW.pt (QO (j9 (jd (qJ h1 G1 hr (by rfl) (qb (jv 4) (qb (jv 5) (qb (jv 8) (qb (jv 9) qf))))))) (Qh (j9 (jd (qJ h1 G1 hr (by rfl) (qb (jv 4) (qb (jv 5) (qb (jv 9) (qb (jv 8) qf)))))))))) (qg (qv jG)) qz)))))
       (qe (qw (i:=10) Jy.nd rfl (Or.inl rfl) (qZ jY (jD (qb Wv (qb qI (qb qI (qb qi (qb jG (qb (jD (qb (jv 8) qf)) (qb (jC (qb (jv 8) qf)) qf)))))))) (qJ hT GT r1 (by rfl) (qb (jv 2) (qb qi qf))) (λ_ _=>rfl)))
       (qg (jc PassesOwn.never rfl (qH (jD (qb (QD (v:=.ref f5) (by rfl) h5.ns rfl) (qb (QD (v:=.ref f6) (by rfl) h6.ns rfl) qf)))) (qt (i:=11) Jy.nd rfl (Or.inl rfl))
         (qg (qM (JW.pt (QO (j9 (jd (qJ h2 G2 r6 (by rfl) (qb (jv 11) (qb (jv 4) (qb (jv 10) (qb qi (qb (jv 10) qf)))))))) (Qh (j9 (jd (qJ h2 G2 r6 (by rfl) (qb (jv 11) (qb (jv 4) (qb (jv 8) (qb (jv 10) (qb (jv 10) qf))))))))))) (qg (qv jG)) qz))))))))))))
     (qg (qv jG)),?_⟩
   refine⟨_,rfl,a,_,rfl,.inl hq,_,_,rfl,_,_,rfl,?_⟩
   generalize hj:(if (if ((ns.map V.int).length:Int) < (6:Int) then ((ns.map V.int).length:Int) else (6:Int)) > 1 then (if ((ns.map V.int).length:Int) < (6:Int) then ((ns.map V.int).length:Int) else (6:Int)) else 1)=jj
   have jb:-(2^62)<=jj/\jj < 2^62:=by
     rw[<-hj]
     split<;>split<;>omega
   refine⟨jj,rfl,jb.1,jb.2,?_⟩
   refine QI (λi σ H'=>∃v1 v2 v3 v4 v5 v6 v7 v8 v9 v10 v11,σ=[some (.ref a),v1,v2,v3,v4,v5,v6,v7,v8,v9,v10,v11]/\SqL K H' a (ns.map V.int)) ⟨_,_,_,_,_,_,_,_,_,_,_,rfl,hq⟩ ?_ ?_
   . rintro i σ H' hi ⟨v1,v2,v3,v4,v5,v6,v7,v8,v9,v10,v11,rfl,hq2⟩
     refine⟨_,rfl,_,rfl,a,ns,_,rfl,hq2,by omega,λc=>⟨c,rfl,λd n sd hd=>?_⟩⟩
     refine⟨_,rfl,by show 4<=sizeLine;decide,λlp hlp=>?_⟩
     have ndp:lp≠d:=λe=>by rw[e,qd]at hlp;cases hlp
     refine⟨_,rfl,d,4,n,sd,0,rfl,ql qd hlp,by decide,by decide,λr n1 t1 r0 r1'=>?_⟩
     obtain⟨mo,em,m0,m14⟩:=Mf r0 r1'
     refine⟨lp,_,r,_,rfl,rfl,.of (by rw[qh ndp];exact qd),em,d,mo,n1,sd,t1,rfl,qd,m0,m14,λl ps rs n2 t2 H2 hl hl2 rat good pos le hd2 fr2=>?_⟩
     have hlp':H' lp=none:=by rw[qh ndp]at hlp;exact hlp
     have sm:Same H' H2:=λb u hb=>by
       have nb:b≠d:=qo hb hd
       refine fr2 b u ?_ nb
       rw[qh nb,qh (qo hb hlp'),qh nb]
       exact hb
     have le14:rs.length<=14:=Nat.le_trans le m14
     have g2:Qw H2 l ps rs:=⟨hl2,rat,good,pos,le14⟩
     refine⟨_,rfl,l,_,rfl,.inl (.of hl2),λl2 hl2' x dx hx hdx ndx=>?_⟩
     refine kS hl2 rat good pos le14 hl2' hx hdx ndx λH4 s4 gr=>?_
     have g4:Qw H4 l ps rs:=g2.mono s4
     refine⟨_,rfl,l,ps,rs,rfl,g4,λH5 DW FW s5 hDW wt hF okF=>?_⟩
     have g5:=g4.mono s5
     refine⟨_,rfl,l,rfl,⟨_,.of g5.at_⟩,λln hln=>?_⟩
     refine jL (K:=K) (a:=l) (xs:=ps.map V.ref) (λj σ' X=>∃v,σ'=[v]/\X=upd H5 ln (.lst (((rs.take j).map (·.1)).map V.str))) ⟨none,rfl,rfl⟩ (λj σ' X _ ⟨_,_,e⟩=>e▸.of (ql g5.at_ hln)) ?_ ?_
     . rintro j y σ' X hy ⟨v,rfl,rfl⟩
       obtain⟨p',q',r',rfl,er,hr',ea,eb⟩:=g5.rows.item hy
       have hi:=(List.getElem?_eq_some_iff.mp er).1
       refine⟨_,rfl,p',_,0,_,rfl,rfl,.of (ql ea hln),rfl,_,qd,?_,_,rfl,?_⟩
       . rw[List.length_map,List.length_map,List.length_take]
         exact qp (by omega)
       . rw[jr,List.take_add_one,er,List.map_append,List.map_append]
         rfl
     rintro σ' X6 ⟨v,rfl,rfl⟩
     have e0:rs.take (ps.map V.ref).length=rs:=List.take_of_length_le (by rw[List.length_map,rat.1];exact Nat.le_refl _)
     rw[e0]
     have s6:Same H5 (upd H5 ln (.lst ((rs.map (·.1)).map V.str))):=qk hln
     have hl6:upd H5 ln (.lst ((rs.map (·.1)).map V.str)) ln=some (.lst ((rs.map (·.1)).map V.str)):=qd
     generalize upd H5 ln (.lst ((rs.map (·.1)).map V.str))=H6 at s6 hl6
     have gr6:=(gr.mono s5).mono s6
     have wt6:=wt.mono s6
     have s26:Same H2 H6:=s4.trans (s5.trans s6)
     have hd6:=s26 _ _ hd2
     have hq6:SqL K H6 a (ns.map V.int):=s26.seq (sm.seq hq2)
     have lN:(rs.map (·.1)).length=rs.length:=List.length_map ..
     have st:∀{X:Hp} {n' t':Int},Fr H6 d X->X d=some (.dK (src n' sd t'))->jQ CG X x rs/\z5 X DW FW (rs.map (·.1))/\X ln=some (.lst ((rs.map (·.1)).map V.str))/\SqL K X a (ns.map V.int):=λ{X n' t'} fr hdX=>⟨gr6.src pos hd6 fr,wt6.src (by omega) hd6 fr,fr _ _ hl6 (λe=>by rw[e,hd6]at hl6;cases hl6),G8 hq6 hd6 fr⟩
     refine⟨_,rfl,d,10,n2,sd,t2,rfl,hd6,by decide,by decide,λrr n3 t3 rr0 rr1=>⟨_,_,rfl,rfl,?_⟩⟩
     refine⟨(1:Int)+rr,rfl,by omega,by omega,?_⟩
     have tn:((1:Int)+rr).toNat=rr.toNat+1:=by omega
     rw[tn]
     refine QI (λm σ' X=>∃(v7 v8 v9:Option V) (n' t':Int),σ'=[some (.ref a),some (.int (0+(i:Int))),some (.ref d),some (.ref l),some (.ref x),some (.ref DW),some (.ref ln),v7,v8,v9,v10,v11]/\Fr H6 d X/\X d=some (.dK (src n' sd t'))/\(0 < m->∃z∈rs.map (·.1),v8=some (.str z)))
       ⟨_,_,_,n3,t3,rfl,Fr.refl.at_d,qd,λz=>absurd z (Nat.lt_irrefl 0)⟩ ?_ ?_
     . rintro m σ' X hm ⟨v7,v8,v9,n',t',rfl,fr,hdX,_⟩
       obtain⟨gX,wX,lX,qX⟩:=st fr hdX
       have draw:∀{X:Hp} {n' t':Int},X ln=some (.lst ((rs.map (·.1)).map V.str))->X d=some (.dK (src n' sd t'))->∀(r:Int),0<=r->r < ((rs.map (·.1)).map V.str).length->∃z∈rs.map (·.1),vM ((rs.map (·.1)).map V.str) r=some (.str z):=λ{X n' t'} _ _ r h0 h1=>by
         rw[List.length_map]at h1
         obtain⟨z,ez⟩:∃z,(rs.map (·.1))[r.toNat]?=some z:=⟨_,List.getElem?_eq_getElem (by omega)⟩
         have e:r=((r.toNat:Nat):Int):=by omega
         refine⟨z,List.mem_of_getElem? ez,?_⟩
         rw[e]
         exact Zb (by rw[List.getElem?_map,ez];rfl)
       have lpos:(0:Int) < ((rs.map (·.1)).map V.str).length:=by rw[List.length_map,lN];omega
       have lsm:(((rs.map (·.1)).map V.str).length:Int).natAbs < 2^200:=by rw[List.length_map,lN];exact Nat.lt_of_le_of_lt (show _<=14 by omega) (by decide)
       refine⟨_,rfl,_,rfl,_,rfl,ln,_,rfl,.inl (.of lX),d,_,n',sd,t',rfl,hdX,lpos,lsm,λq1 n4 t4 q10 q11=>?_⟩
       have fr4:Fr H6 d (upd X d (.dK (src n4 sd t4))):=fr.at_d
       obtain⟨gX4,wX4,lX4,qX4⟩:=st fr4 qd
       obtain⟨z1,hz1,ez1⟩:=draw lX hdX q1 q10 q11
       refine⟨ln,_,q1,_,rfl,rfl,.of lX4,ez1,?_⟩
       refine⟨_,rfl,_,rfl,_,rfl,ln,_,rfl,.inl (.of lX4),d,_,n4,sd,t4,rfl,qd,lpos,lsm,λq2 n5 t5 q20 q21=>?_⟩
       have fr5:Fr H6 d (upd (upd X d (.dK (src n4 sd t4))) d (.dK (src n5 sd t5))):=fr4.at_d
       obtain⟨gX5,wX5,lX5,qX5⟩:=st fr5 qd
       have hdX5:upd (upd X d (.dK (src n4 sd t4))) d (.dK (src n5 sd t5)) d=some (.dK (src n5 sd t5)):=qd
       generalize upd (upd X d (.dK (src n4 sd t4))) d (.dK (src n5 sd t5))=X5 at fr5 gX5 wX5 lX5 qX5 hdX5
       obtain⟨z2,hz2,ez2⟩:=draw lX hdX q2 q20 q21
       refine⟨ln,_,q2,_,rfl,rfl,.of lX5,ez2,?_⟩
       refine⟨_,rfl,_,rfl,_,rfl,_,rfl,x,DW,rs,FW,z1,z2,rfl,gX5,good,le14,wX5,hF,hz1,hz2,λX6 s7=>⟨_,rfl,jf ?_⟩⟩
       refine⟨_,rfl,_,rfl,_,rfl,_,rfl,x,DW,rs,FW,z2,z1,rfl,gX5.mono s7,good,le14,wX5.mono s7,hF,hz2,hz1,λX7 s8=>⟨_,rfl,jf ?_⟩⟩
       exact⟨_,_,_,n5,t5,rfl,(fr5.same s7).same s8,s8 _ _ (s7 _ _ hdX5),λ_=>⟨z1,hz1,rfl⟩⟩
     . rintro σ' X ⟨v7,v8,v9,n',t',rfl,fr,hdX,hv8⟩
       obtain⟨z,hz,rfl⟩:=hv8 (Nat.succ_pos _)
       obtain⟨gX,wX,lX,qX⟩:=st fr hdX
       have nmz:∀z∈rs.map (·.1),jo z=true:=λz hz=>by
         obtain⟨r',hr',rfl⟩:=List.mem_map.mp hz
         exact good.nm r' hr'
       have nz:=nmz z hz
       refine⟨_,rfl,by show 1<=sizeLine;decide,λli hli=>?_⟩
       have sV:Same X (upd X li (.lst [.str z])):=qk hli
       have hV:upd X li (.lst [.str z]) li=some (.lst [.str z]):=qd
       generalize upd X li (.lst [.str z])=XV at sV hV
       refine⟨_,rfl,by show 1<=sizeLine;decide,λtu htu=>?_⟩
       have sU:Same XV (upd XV tu (.tup [.str z])):=qk htu
       have hU:upd XV tu (.tup [.str z]) tu=some (.tup [.str z]):=qd
       generalize upd XV tu (.tup [.str z])=XU at sU hU
       refine⟨by show 7<=sizeLine;decide,λls hls=>?_⟩
       have sS:Same XU (upd XU ls (.lst [.non,.str (Str.ofString ""),.str (Str.ofString "nosuchabc"),.int 0,.bl true,.ref li,.ref tu])):=qk hls
       have hS:upd XU ls (.lst [.non,.str (Str.ofString ""),.str (Str.ofString "nosuchabc"),.int 0,.bl true,.ref li,.ref tu]) ls=some (.lst [.non,.str (Str.ofString ""),.str (Str.ofString "nosuchabc"),.int 0,.bl true,.ref li,.ref tu]):=qd
       generalize upd XU ls (.lst [.non,.str (Str.ofString ""),.str (Str.ofString "nosuchabc"),.int 0,.bl true,.ref li,.ref tu])=XS at sS hS
       have sXS:Same X XS:=sV.trans (sU.trans sS)
       have nls:ls≠d:=λe=>by have:=sXS _ _ hdX;rw[<-e,hS]at this;cases this
       refine⟨_,rfl,d,7,n',sd,t',rfl,sXS _ _ hdX,by decide,by decide,λrr n6 t6 rr0 rr1=>?_⟩
       have hdS:upd XS d (.dK (src n6 sd t6)) d=some (.dK (src n6 sd t6)):=qd
       have frS:Fr XS d (upd XS d (.dK (src n6 sd t6))):=Fr.refl.at_d
       have nd1':∀{b:Addr} {u:HO},XS b=some u->(∀kvs,u≠.dK kvs)->upd XS d (.dK (src n6 sd t6)) b=some u:=λ{b u} hb nu=>frS _ _ hb λe=>by rw[e,sXS _ _ hdX]at hb;exact nu _ (Option.some.inj hb).symm
       have hS':=nd1' hS (λ_ e=>nomatch e)
       have hU':=nd1' (sS _ _ hU) (λ_ e=>nomatch e)
       have hV':=nd1' (sS _ _ (sU _ _ hV)) (λ_ e=>nomatch e)
       obtain⟨gT,wT',lT,qT⟩:=st ((fr.same sXS).trans frS) hdS
       generalize upd XS d (.dK (src n6 sd t6))=XT at hdS frS hS' hU' hV' gT wT' lT qT
       have bad:∀v∈[V.non,.str (Str.ofString ""),.str (Str.ofString "nosuchabc"),.int 0,.bl true,.ref li,.ref tu],Nv K XT (rs.map (·.1)) v:=λv hv=>by
         simp only[List.mem_cons,List.mem_nil_iff,or_false]at hv
         rcases hv with rfl | rfl | rfl | rfl | rfl | rfl | rfl
         . exact⟨.inl ⟨.none,.non,rfl,Nat.zero_le _,λz _=>rfl⟩,⟨.none,.non,rfl⟩,_,false,.non,S.n⟩
         . exact vK S (by decide+kernel) (by decide+kernel) nmz
         . exact vK S (by decide+kernel) (by decide+kernel) nmz
         . exact⟨.inl ⟨.int 0,.int 0,rfl,Nat.zero_le _,λz _=>rfl⟩,⟨.int 0,.int 0,rfl⟩,_,false,.int 0,S.i⟩
         . exact⟨.inl ⟨.bool true,.bl true,rfl,Nat.zero_le _,λz _=>rfl⟩,⟨.bool true,.bl true,rfl⟩,_,true,.bl true,S.b⟩
         . exact KZ S hV' nz
         . exact KY S hU' nz
       have l7:[V.non,.str (Str.ofString ""),.str (Str.ofString "nosuchabc"),.int 0,.bl true,.ref li,.ref tu].length=7:=rfl
       generalize [V.non,.str (Str.ofString ""),.str (Str.ofString "nosuchabc"),.int 0,.bl true,.ref li,.ref tu]=xs at hS' bad l7 hS
       obtain⟨v,ev⟩:∃v,xs[rr.toNat]?=some v:=⟨_,List.getElem?_eq_getElem (by omega)⟩
       have erl:rr=((rr.toNat:Nat):Int):=by omega
       refine⟨ls,_,_,v,rfl,rfl,.of hS',by rw[erl];exact Zb ev,?_⟩
       have bv:=bad v (List.mem_of_getElem? ev)
       refine⟨by show 2<=sizeLine;decide,λlc hlc=>⟨lc,rfl,⟨_,.of qd⟩,?_⟩⟩
       have sC:Same XT (upd XT lc (.lst [.ref f5,.ref f6])):=qk hlc
       have hC:upd XT lc (.lst [.ref f5,.ref f6]) lc=some (.lst [.ref f5,.ref f6]):=qd
       generalize upd XT lc (.lst [.ref f5,.ref f6])=XC at sC hC
       refine jm (K:=K) (a:=lc) (xs:=[.ref f5,.ref f6]) (λm σ' Y=>∃w11,σ'=[some (.ref a),some (.int (0+(i:Int))),some (.ref d),some (.ref l),some (.ref x),some (.ref DW),some (.ref ln),v7,some (.str z),v9,some v,w11]/\Jj XC Y) ⟨_,rfl,Jj.refl _⟩ (λm σ' Y _ ⟨_,_,kp⟩=>.of (kp _ _ hC (λ_ e=>nomatch e))) ?_ ?_
       . rintro m u σ' Y hu' ⟨w11,rfl,kp⟩
         have hf:∃ff,u=.ref ff/\(ff=f5\/ff=f6):=by
           match m,hu' with
           | 0,e=>cases e;exact⟨_,rfl,.inl rfl⟩
           | 1,e=>cases e;exact⟨_,rfl,.inr rfl⟩
           | n+2,e=>simp at e
         obtain⟨ff,rfl,hff⟩:=hf
         have bY:=(bv.keep sC.keep).keep kp
         have gY:=(gT.mono sC).keep kp
         refine⟨_,rfl,_,rfl,_,rfl,_,rfl,ff,x,rs,v,.int 5,v,rfl,hff,gY,good,.inl ⟨bY.1,rfl⟩,bY.2,λY1 k1=>⟨_,rfl,jf ?_⟩⟩
         have bY1:=bY.keep k1
         refine⟨_,rfl,_,rfl,_,rfl,_,rfl,_,rfl,ff,x,rs,.str z,v,v,rfl,hff,gY.keep k1,good,.inr ⟨z,hz,rfl,bY1.1,rfl⟩,bY1.2,λY2 k2=>⟨_,rfl,jf ?_⟩⟩
         exact⟨_,rfl,kp.trans (k1.trans k2)⟩
       . rintro σ' Y ⟨w11,rfl,kp⟩
         exact⟨_,_,_,_,_,_,_,_,_,_,_,rfl,(sC.seq qT).keep kp⟩
   . rintro σ H' ⟨v1,v2,v3,v4,v5,v6,v7,v8,v9,v10,v11,rfl,_⟩
     exact k H'
end
end Rh
set_option Elab.async false
set_option linter.all false
set_option maxRecDepth 100000
set_option maxHeartbeats 4000000
namespace Rh
open PySem L2 PyProof.Rows MLab
theorem kss {K:PySem.W.Frag}:PySem.W.kitOne K (.type "str") (.type "str")=some true:=by kernel_rfl
theorem ktt {K:PySem.W.Frag}:PySem.W.kitOne K (.type "tuple") (.type "tuple")=some true:=by kernel_rfl
theorem kll {K:PySem.W.Frag}:PySem.W.kitOne K (.type "list") (.type "list")=some true:=by kernel_rfl
theorem kii {K:PySem.W.Frag}:PySem.W.kitOne K (.type "int") (.type "int")=some true:=by kernel_rfl
theorem kib {K:PySem.W.Frag}:PySem.W.kitOne K (.type "int") (.type "bool")=some false:=by kernel_rfl
theorem knb {K:PySem.W.Frag}:PySem.W.kitOne K (.type "NoneType") (.type "bool")=some false:=by kernel_rfl
theorem ksb {K:PySem.W.Frag}:PySem.W.kitOne K (.type "str") (.type "bool")=some false:=by kernel_rfl
theorem kbb {K:PySem.W.Frag}:PySem.W.kitOne K (.type "bool") (.type "bool")=some true:=by kernel_rfl
theorem klb {K:PySem.W.Frag}:PySem.W.kitOne K (.type "list") (.type "bool")=some false:=by kernel_rfl
theorem ktb {K:PySem.W.Frag}:PySem.W.kitOne K (.type "tuple") (.type "bool")=some false:=by kernel_rfl
section
variable {K:PySem.W.Frag}
def MF (K:PySem.W.Frag) (n q:Str) (s:Stmt) (f:Addr):Prop:=∃fd,jM K n q s f fd
theorem MF.mk' {x qual:Str} {st:Stmt} {f:Addr} {oc:Value} {od an:Option Addr} {osl:Array (Option Value)} {kV doc pm cdv ct:Value} (l:K.lookup f=some ⟨oc,od,.func (PySem.W.fnOf x qual (QW st) (Qd st) (qj st) .none kV doc pm an cdv ct),osl⟩) (c:PySem.W.codeIn K cdv qual=true) (k:PySem.W.keepIn K (.ref f)=true):MF K x qual st f:=⟨_,Ue l c k⟩
def HF (K:PySem.W.Frag) (n:Str) (s:Stmt) (f:Addr):Prop:=PySem.W.nsIn K mainGlobals n=some (some (.ref f))/\MF K n n s f
theorem HF.mk' {x:Str} {st:Stmt} {f:Addr} {oc:Value} {od an:Option Addr} {osl:Array (Option Value)} {kV doc pm cdv ct:Value} (a:PySem.W.nsIn K mainGlobals x=some (some (.ref f))) (l:K.lookup f=some ⟨oc,od,.func (PySem.W.fnOf x x (QW st) (Qd st) (qj st) .none kV doc pm an cdv ct),osl⟩) (c:PySem.W.codeIn K cdv x=true) (k:PySem.W.keepIn K (.ref f)=true):HF K x st f:=⟨a,_,Ue l c k⟩
theorem HF.has {h:Heap} {mg:Str->Option Value} {n:Str} {s:Stmt} {f:Addr} {ps:List Str} (l:HF K n s f) (X:K.In h) (G:h.Ns mainGlobals mg) (b:∀{fd},jM K n n s f fd->jx K fd ps []):∃fd,jq K mg n s ps f fd:=let ⟨a,fd,F⟩:=l;⟨fd,F,PySem.W.mg_of X G a,b F⟩
end
def NK (es:Array DictEntry):Bool:=es.all λe=>match e.key with | .str _ _=>true | _=>false
theorem uy {es:Array DictEntry} (h:NK es=true):StrKeys es:=by
 intro e he
 have q:=Array.all_eq_true'.mp h e he
 revert q
 cases hk:e.key<;>intro q<;>first | exact⟨_,_,rfl⟩ | (dsimp only at q;cases q)
section
variable {K:PySem.W.Frag} {mg:Str->Option Value} {D C f:Addr} {x qual fld:Str} {st:Stmt}
theorem R8 {h:Heap} {fd:FuncData} {nm q:Str} {N:Addr} {bs:List Value} {hdct:Bool} {sn:List Str} {sub:List Value} {ab:Bool} {col:Option Bool} {dd:Option Addr} {k0 k1 k2 k3 k5:Option Value}
   (X:K.In h) (G:h.Ns mainGlobals mg) (tl:∀h:Heap,K.In h->OwnTail h Qq (.ref D::Qq)) (F:jM K "__init__" qual st f fd) (b:jx K fd ["self",fld] [])
   (a1:PySem.W.nsIn K mainGlobals x=some (some (.ref C)))
   (a2:K.lookup C=some (excClassObj nm q C N bs (.ref D::Qq) hdct sn sub ab col dd k0 k1 k2 k3 k5 "ValueError.__new__"))
   (a3:PySem.W.findIn K (.ref C) "__init__"=some (some (.ref f))) (a4:PySem.W.isFn K (.ref f)=true) (a5:PySem.W.keepIn K (.ref C)=true)
   (a6:PySem.W.findIn K (.ref C) "__getattribute__"=some (some (.builtin "BaseException.__getattribute__"))) (a7:PySem.W.findIn K (.ref C) "__getattr__"=some none)
   (a8:PySem.W.findIn K (.ref C) "__setattr__"=some (some (.builtin "object.__setattr__"))) (a9:PySem.W.hasDictIn K C=true)
   (a10:PySem.W.mroIn K C (.type "BaseException")=some true) (a11:PySem.W.mroIn K C (.type "object")=some true)
   (a12:PySem.W.findIn K (.ref C) "__class__"=some (some (.builtin "object.__class__"))) (a13:PySem.W.findIn K (.ref C) fld=some none):uf K mg D x qual st fld C f fd:=
 ⟨⟨a6,a7,a8,a9,⟨_,by unfold PySem.W.clsIn;rw[a2],rfl⟩,a10,a11,a12⟩,⟨⟨nm,q,N,bs,hdct,sn,sub,ab,col,dd,k0,k1,k2,k3,k5,a2⟩,tl,a3,a4,a5⟩,PySem.W.mg_of X G a1,a13,F,b⟩
end
theorem all_mk {l:PySem.W.OpenLaw} {w:World} {K:PySem.W.Frag} {h:Heap} {mg:Str->Option Value} {fa:Addr} (X:K.In h) (G:h.Ns mainGlobals mg) (hfa:mg "law"=some (.ref fa))
   {fO fL fT fN fD fR fA1 fA2 fA3 fA4 fA5 fA6 fA7 fA8 fB1 fB2 fB3 fB4 fB5 fB6 fB7 fB8 fW1 fW2 fW3 fW4 fW5 fW6 fP1 fP2 fP3 fP4 fP5 fP6 fP7 fC1 fC2 fC3 fC4 fC5 fC6 fCGi fCGM fCGF fCNi fCNT fCNO fCNP fCNE fCEi fCET fCEO fCEP fCEE CNoPlace fNoPlace:Addr}
   {fLAW:Addr} {odLAW anLAW:Option Addr} {slLAW:Array (Option Value)} {ocLAW kVLAW dcLAW pmLAW cdLAW ctLAW:Value}
   {CG:Addr}
   {CN:Addr}
   {CE:Addr}
   {tm1:Tok}
   {tm2:Tok}
   {tm3:Tok}
   {tm4:Tok}
   {tm5:Tok}
   {tm6:Tok}
   {D:Addr} {nmHE qHE:Str} {NHE:Addr} {bsHE subHE:List Value} {hdctHE abHE:Bool} {snHE:List Str} {colHE:Option Bool} {ddHE:Option Addr} {kaHE kbHE kcHE kdHE keHE:Option Value} {oHN:Value} {dHN:Option Addr} {es:Array DictEntry} {ep:Nat} {slHN:Array (Option Value)}
   {nmNoPlace qNoPlace:Str} {NNoPlace:Addr} {bsNoPlace subNoPlace:List Value} {hdctNoPlace abNoPlace:Bool} {snNoPlace:List Str} {colNoPlace:Option Bool} {ddNoPlace:Option Addr} {kaNoPlace kbNoPlace kcNoPlace kdNoPlace keNoPlace:Option Value}
   (lO:HF K "_law_cell_at" U9 fO)
   (lL:HF K "_law_source" zN fL)
   (lT:HF K "_law_take" Yg fT)
   (lN:HF K "_law_names" Yj fN)
   (lD:HF K "_law_leads" Ym fD)
   (lR:HF K "_law_rows" U4 fR)
   (lA1:HF K "is_name" ZA fA1)
   (lA2:HF K "is_tuple_of_names" Xe fA2)
   (lA3:HF K "is_row" Yp fA3)
   (lA4:HF K "need_form" U6 fA4)
   (lA5:HF K "need_own_names" uT fA5)
   (lA6:HF K "need_ends" U7 fA6)
   (lA7:HF K "need_few_roads" uW fA7)
   (lA8:HF K "need_rows" W2 fA8)
   (lB1:HF K "lacking" Qp fB1)
   (lB2:HF K "set_of" Z0 fB2)
   (lB3:HF K "numbers_behind" Gj fB3)
   (lB4:HF K "gets_number" Yq fB4)
   (lB5:HF K "round_of" Z1 fB5)
   (lB6:HF K "give_number" W4 fB6)
   (lB7:HF K "give_numbers" Wf fB7)
   (lB8:HF K "labels_of" zO fB8)
   (lW1:HF K "is_whole" JM fW1)
   (lW2:HF K "is_number" Zz fW2)
   (lW3:HF K "is_set" Yo fW3)
   (lW4:HF K "set_turned" zM fW4)
   (lW5:HF K "numbers_in" Yi fW5)
   (lW6:HF K "sum_of" Yh fW6)
   (lP1:HF K "need_place" JN fP1)
   (lP2:HF K "label_worth" NV fP2)
   (lP3:HF K "worth_by" uS fP3)
   (lP4:HF K "outcome_by" uV fP4)
   (lP5:HF K "worths_told" Wa fP5)
   (lP6:HF K "alike" Zl fP6)
   (lP7:HF K "parting" Jb fP7)
   (lC1:HF K "_law_gets" Yn fC1)
   (lC2:HF K "_law_worths" ZB fC2)
   (lC3:HF K "_law_total" Wb fC3)
   (lC4:HF K "_law_outcome" MG fC4)
   (lC5:HF K "_law_pair_right" We fC5)
   (lC6:HF K "_law_refused" J5 fC6)
   (aLAW:PySem.W.nsIn K mainGlobals "law"=some (some (.ref fLAW)))
   (lLAW:K.lookup fLAW=some ⟨ocLAW,odLAW,.func (PySem.W.fnOf "law" "law" (QW Wd) (Qd Wd) (qj Wd) .none kVLAW dcLAW pmLAW anLAW cdLAW ctLAW),slLAW⟩)
   (cLAW:PySem.W.codeIn K cdLAW "law"=true)
   (kLAW:PySem.W.keepIn K (.ref fLAW)=true)
   (nCG:PySem.W.nsIn K mainGlobals "Ground"=some (some (.ref CG)))
   (pgCG:PySem.W.plainGet K CG Str.empty=true)
   (hdCG:PySem.W.hasDictIn K CG=true)
   (poCG:PySem.W.plainOver K CG=true)
   (saCG:PySem.W.findIn K (.ref CG) "__setattr__"=some (some (.builtin "object.__setattr__")))
   (mkCG:PySem.W.makesIn K CG=true)
   (inCG:PySem.W.findIn K (.ref CG) "__init__"=some (some (.ref fCGi)))
   (fiCG:PySem.W.isFn K (.ref fCGi)=true)
   (kcCG:PySem.W.keepIn K (.ref CG)=true)
   (noCG:PySem.W.findIn K (.ref CG) "order"=some none)
   (nrCG:PySem.W.findIn K (.ref CG) "roads"=some none)
   (lCGi:MF K "__init__" "Ground.__init__" VW fCGi)
   (atCGM:PySem.W.findIn K (.ref CG) "names"=some (some (.ref fCGM)))
   (fnCGM:PySem.W.isFn K (.ref fCGM)=true)
   (lCGM:MF K "names" "Ground.names" ZC fCGM)
   (atCGF:PySem.W.findIn K (.ref CG) "roads_from"=some (some (.ref fCGF)))
   (fnCGF:PySem.W.isFn K (.ref fCGF)=true)
   (lCGF:MF K "roads_from" "Ground.roads_from" Yr fCGF)
   (nCN:PySem.W.nsIn K mainGlobals "Numbered"=some (some (.ref CN)))
   (pgCN:PySem.W.plainGet K CN Str.empty=true)
   (hdCN:PySem.W.hasDictIn K CN=true)
   (poCN:PySem.W.plainOver K CN=true)
   (saCN:PySem.W.findIn K (.ref CN) "__setattr__"=some (some (.builtin "object.__setattr__")))
   (mkCN:PySem.W.makesIn K CN=true)
   (inCN:PySem.W.findIn K (.ref CN) "__init__"=some (some (.ref fCNi)))
   (fiCN:PySem.W.isFn K (.ref fCNi)=true)
   (kcCN:PySem.W.keepIn K (.ref CN)=true)
   (naCN:PySem.W.findIn K (.ref CN) "number"=some none)
   (lCNi:MF K "__init__" "Numbered.__init__" Yl fCNi)
   (caCN:PySem.W.findIn K (.ref CN) "__class__"=some (some (.builtin "object.__class__")))
   (obCN:PySem.W.mroIn K CN (.type "object")=some true)
   (atCNT:PySem.W.findIn K (.ref CN) "told"=some (some (.ref fCNT)))
   (fnCNT:PySem.W.isFn K (.ref fCNT)=true)
   (lCNT:MF K "told" "Numbered.told" Yk fCNT)
   (atCNO:PySem.W.findIn K (.ref CN) "outcome"=some (some (.ref fCNO)))
   (fnCNO:PySem.W.isFn K (.ref fCNO)=true)
   (lCNO:MF K "outcome" "Numbered.outcome" U5 fCNO)
   (atCNP:PySem.W.findIn K (.ref CN) "plus"=some (some (.ref fCNP)))
   (fnCNP:PySem.W.isFn K (.ref fCNP)=true)
   (lCNP:MF K "plus" "Numbered.plus" Wc fCNP)
   (atCNE:PySem.W.findIn K (.ref CN) "is_endless"=some (some (.ref fCNE)))
   (fnCNE:PySem.W.isFn K (.ref fCNE)=true)
   (lCNE:MF K "is_endless" "Numbered.is_endless" W3 fCNE)
   (nCE:PySem.W.nsIn K mainGlobals "Endless"=some (some (.ref CE)))
   (pgCE:PySem.W.plainGet K CE Str.empty=true)
   (hdCE:PySem.W.hasDictIn K CE=true)
   (poCE:PySem.W.plainOver K CE=true)
   (saCE:PySem.W.findIn K (.ref CE) "__setattr__"=some (some (.builtin "object.__setattr__")))
   (mkCE:PySem.W.makesIn K CE=true)
   (inCE:PySem.W.findIn K (.ref CE) "__init__"=some (some (.ref fCEi)))
   (fiCE:PySem.W.isFn K (.ref fCEi)=true)
   (kcCE:PySem.W.keepIn K (.ref CE)=true)
   (naCE:PySem.W.findIn K (.ref CE) "bits"=some none)
   (lCEi:MF K "__init__" "Endless.__init__" Yt fCEi)
   (caCE:PySem.W.findIn K (.ref CE) "__class__"=some (some (.builtin "object.__class__")))
   (obCE:PySem.W.mroIn K CE (.type "object")=some true)
   (atCET:PySem.W.findIn K (.ref CE) "told"=some (some (.ref fCET)))
   (fnCET:PySem.W.isFn K (.ref fCET)=true)
   (lCET:MF K "told" "Endless.told" Ys fCET)
   (atCEO:PySem.W.findIn K (.ref CE) "outcome"=some (some (.ref fCEO)))
   (fnCEO:PySem.W.isFn K (.ref fCEO)=true)
   (lCEO:MF K "outcome" "Endless.outcome" U8 fCEO)
   (atCEP:PySem.W.findIn K (.ref CE) "plus"=some (some (.ref fCEP)))
   (fnCEP:PySem.W.isFn K (.ref fCEP)=true)
   (lCEP:MF K "plus" "Endless.plus" Wg fCEP)
   (atCEE:PySem.W.findIn K (.ref CE) "is_endless"=some (some (.ref fCEE)))
   (fnCEE:PySem.W.isFn K (.ref fCEE)=true)
   (lCEE:MF K "is_endless" "Endless.is_endless" W5 fCEE)
   (zlen:PySem.W.nsIn K mainGlobals "len"=some none)
   (zmax:PySem.W.nsIn K mainGlobals "max"=some none)
   (zmin:PySem.W.nsIn K mainGlobals "min"=some none)
   (zint:PySem.W.nsIn K mainGlobals "int"=some none)
   (zrange:PySem.W.nsIn K mainGlobals "range"=some none)
   (zisinstance:PySem.W.nsIn K mainGlobals "isinstance"=some none)
   (zstr:PySem.W.nsIn K mainGlobals "str"=some none)
   (zall:PySem.W.nsIn K mainGlobals "all"=some none)
   (zenumerate:PySem.W.nsIn K mainGlobals "enumerate"=some none)
   (zsum:PySem.W.nsIn K mainGlobals "sum"=some none)
   (zsorted:PySem.W.nsIn K mainGlobals "sorted"=some none)
   (zlist:PySem.W.nsIn K mainGlobals "list"=some none)
   (zreversed:PySem.W.nsIn K mainGlobals "reversed"=some none)
   (zset:PySem.W.nsIn K mainGlobals "set"=some none)
   (ztuple:PySem.W.nsIn K mainGlobals "tuple"=some none)
   (zdict:PySem.W.nsIn K mainGlobals "dict"=some none)
   (zbool:PySem.W.nsIn K mainGlobals "bool"=some none)
   (m1:PySem.W.nsIn K mainGlobals "LETTERS"=some (some (.str "abcdefghijklmnopqrstuvwxyz" tm1)))
   (m2:PySem.W.nsIn K mainGlobals "LONGEST_NAME"=some (some (.int 8 tm2)))
   (m3:PySem.W.nsIn K mainGlobals "MOST_PLACES"=some (some (.int 14 tm3)))
   (m4:PySem.W.nsIn K mainGlobals "MOST_ROADS"=some (some (.int 40 tm4)))
   (m5:PySem.W.nsIn K mainGlobals "MOST_NUMBER"=some (some (.int 15 tm5)))
   (m6:PySem.W.nsIn K mainGlobals "MOST_BITS"=some (some (.int 65535 tm6)))
   (aHE:PySem.W.nsIn K mainGlobals "HeapError"=some (some (.ref D)))
   (oHE:K.lookup D=some (excClassObj nmHE qHE D NHE bsHE Qq hdctHE snHE subHE abHE colHE ddHE kaHE kbHE kcHE kdHE keHE "ValueError.__new__"))
   (nHE:K.lookup NHE=some ⟨oHN,dHN,.dict es ep,slHN⟩)
   (skHE:NK es=true)
   (niHE:nsFind es (Str.ofString "__init__")=none)
   (a1NoPlace:PySem.W.nsIn K mainGlobals "NoPlace"=some (some (.ref CNoPlace)))
   (a2NoPlace:K.lookup CNoPlace=some (excClassObj nmNoPlace qNoPlace CNoPlace NNoPlace bsNoPlace (.ref D::Qq) hdctNoPlace snNoPlace subNoPlace abNoPlace colNoPlace ddNoPlace kaNoPlace kbNoPlace kcNoPlace kdNoPlace keNoPlace "ValueError.__new__"))
   (a3NoPlace:PySem.W.findIn K (.ref CNoPlace) "__init__"=some (some (.ref fNoPlace)))
   (a4NoPlace:PySem.W.isFn K (.ref fNoPlace)=true)
   (lNoPlace:MF K "__init__" "NoPlace.__init__" j6 fNoPlace)
   (a5NoPlace:PySem.W.keepIn K (.ref CNoPlace)=true)
   (a6NoPlace:PySem.W.findIn K (.ref CNoPlace) "__getattribute__"=some (some (.builtin "BaseException.__getattribute__")))
   (a7NoPlace:PySem.W.findIn K (.ref CNoPlace) "__getattr__"=some none)
   (a8NoPlace:PySem.W.findIn K (.ref CNoPlace) "__setattr__"=some (some (.builtin "object.__setattr__")))
   (a9NoPlace:PySem.W.hasDictIn K CNoPlace=true)
   (a10NoPlace:PySem.W.mroIn K CNoPlace (.type "BaseException")=some true)
   (a11NoPlace:PySem.W.mroIn K CNoPlace (.type "object")=some true)
   (a12NoPlace:PySem.W.findIn K (.ref CNoPlace) "__class__"=some (some (.builtin "object.__class__")))
   (a13NoPlace:PySem.W.findIn K (.ref CNoPlace) "found"=some none)
   (spc:PySem.W.specialIn K (.builtin "object.__class__") "__get__"=some (some (.builtin "getset_descriptor.__get__")))
   (tks:PySem.W.takesIn K (.builtin "object.__class__")=some true)
   (ne:CN≠CE)
   (w1:PySem.W.kitOne K (.ref CNoPlace) (.ref CNoPlace)=some true)
   :
   ∃fd:FuncData,(∀(s:Shared) (v:Value),BindsTo s fd ⟨[v],[]⟩ [("_law_script",v)])/\∀base:Heap,K.In base->base.Ns mainGlobals mg->qm l.prog w K mg base qO 13 fa fd ["_law_script"] (UW K):=by
 have e:=hfa.symm.trans (PySem.W.mg_of X G aLAW)
 cases e
 obtain⟨_,hO⟩:=lO.has (ps:=["_law_script","_law_k"]) X G λF=>F.binds λ_ _ _ _ _ _ us hl=>by obtain⟨_,_,rfl⟩:=JJ hl;rfl
 obtain⟨_,hL⟩:=lL.has (ps:=["_law_cell"]) X G λF=>F.binds λ_ _ _ _ _ _ us hl=>by obtain⟨_,rfl⟩:=j8 hl;rfl
 obtain⟨_,hT⟩:=lT.has (ps:=["_law_source_here","_law_many"]) X G λF=>F.binds λ_ _ _ _ _ _ us hl=>by obtain⟨_,_,rfl⟩:=JJ hl;rfl
 obtain⟨_,hN⟩:=lN.has (ps:=["_law_source_here","_law_many"]) X G λF=>F.binds λ_ _ _ _ _ _ us hl=>by obtain⟨_,_,rfl⟩:=JJ hl;rfl
 obtain⟨_,hD⟩:=lD.has (ps:=["_law_source_here","_law_many","_law_shape","_law_low"]) X G λF=>F.binds λ_ _ _ _ _ _ us hl=>by obtain⟨_,_,_,_,rfl⟩:=xV hl;rfl
 obtain⟨_,hR⟩:=lR.has (ps:=["_law_source_here","_law_most"]) X G λF=>F.binds λ_ _ _ _ _ _ us hl=>by obtain⟨_,_,rfl⟩:=JJ hl;rfl
 obtain⟨_,hA1⟩:=lA1.has (ps:=["thing"]) X G λF=>F.binds λ_ _ _ _ _ _ us hl=>by obtain⟨_,rfl⟩:=j8 hl;rfl
 obtain⟨_,hA2⟩:=lA2.has (ps:=["thing"]) X G λF=>F.binds λ_ _ _ _ _ _ us hl=>by obtain⟨_,rfl⟩:=j8 hl;rfl
 obtain⟨_,hA3⟩:=lA3.has (ps:=["thing"]) X G λF=>F.binds λ_ _ _ _ _ _ us hl=>by obtain⟨_,rfl⟩:=j8 hl;rfl
 obtain⟨_,hA4⟩:=lA4.has (ps:=["rows"]) X G λF=>F.binds λ_ _ _ _ _ _ us hl=>by obtain⟨_,rfl⟩:=j8 hl;rfl
 obtain⟨_,hA5⟩:=lA5.has (ps:=["order"]) X G λF=>F.binds λ_ _ _ _ _ _ us hl=>by obtain⟨_,rfl⟩:=j8 hl;rfl
 obtain⟨_,hA6⟩:=lA6.has (ps:=["ends","order"]) X G λF=>F.binds λ_ _ _ _ _ _ us hl=>by obtain⟨_,_,rfl⟩:=JJ hl;rfl
 obtain⟨_,hA7⟩:=lA7.has (ps:=["rows"]) X G λF=>F.binds λ_ _ _ _ _ _ us hl=>by obtain⟨_,rfl⟩:=j8 hl;rfl
 obtain⟨_,hA8⟩:=lA8.has (ps:=["rows"]) X G λF=>F.binds λ_ _ _ _ _ _ us hl=>by obtain⟨_,rfl⟩:=j8 hl;rfl
 obtain⟨_,hB1⟩:=lB1.has (ps:=["numbers"]) X G λF=>F.binds λ_ _ _ _ _ _ us hl=>by obtain⟨_,rfl⟩:=j8 hl;rfl
 obtain⟨_,hB2⟩:=lB2.has (ps:=["numbers"]) X G λF=>F.binds λ_ _ _ _ _ _ us hl=>by obtain⟨_,rfl⟩:=j8 hl;rfl
 obtain⟨_,hB3⟩:=lB3.has (ps:=["ground","numbered","name"]) X G λF=>F.binds λ_ _ _ _ _ _ us hl=>by obtain⟨_,_,_,rfl⟩:=kY hl;rfl
 obtain⟨_,hB4⟩:=lB4.has (ps:=["ground","numbered","name","number"]) X G λF=>F.binds λ_ _ _ _ _ _ us hl=>by obtain⟨_,_,_,_,rfl⟩:=xV hl;rfl
 obtain⟨_,hB5⟩:=lB5.has (ps:=["ground","numbered","number"]) X G λF=>F.binds λ_ _ _ _ _ _ us hl=>by obtain⟨_,_,_,rfl⟩:=kY hl;rfl
 obtain⟨_,hB6⟩:=lB6.has (ps:=["ground","numbered","number"]) X G λF=>F.binds λ_ _ _ _ _ _ us hl=>by obtain⟨_,_,_,rfl⟩:=kY hl;rfl
 obtain⟨_,hB7⟩:=lB7.has (ps:=["ground","numbered"]) X G λF=>F.binds λ_ _ _ _ _ _ us hl=>by obtain⟨_,_,rfl⟩:=JJ hl;rfl
 obtain⟨_,hB8⟩:=lB8.has (ps:=["ground"]) X G λF=>F.binds λ_ _ _ _ _ _ us hl=>by obtain⟨_,rfl⟩:=j8 hl;rfl
 obtain⟨_,hW1⟩:=lW1.has (ps:=["thing"]) X G λF=>F.binds λ_ _ _ _ _ _ us hl=>by obtain⟨_,rfl⟩:=j8 hl;rfl
 obtain⟨_,hW2⟩:=lW2.has (ps:=["thing"]) X G λF=>F.binds λ_ _ _ _ _ _ us hl=>by obtain⟨_,rfl⟩:=j8 hl;rfl
 obtain⟨_,hW3⟩:=lW3.has (ps:=["thing"]) X G λF=>F.binds λ_ _ _ _ _ _ us hl=>by obtain⟨_,rfl⟩:=j8 hl;rfl
 obtain⟨_,hW4⟩:=lW4.has (ps:=["bits","number"]) X G λF=>F.binds λ_ _ _ _ _ _ us hl=>by obtain⟨_,_,rfl⟩:=JJ hl;rfl
 obtain⟨_,hW5⟩:=lW5.has (ps:=["bits"]) X G λF=>F.binds λ_ _ _ _ _ _ us hl=>by obtain⟨_,rfl⟩:=j8 hl;rfl
 obtain⟨_,hW6⟩:=lW6.has (ps:=["worths"]) X G λF=>F.binds λ_ _ _ _ _ _ us hl=>by obtain⟨_,rfl⟩:=j8 hl;rfl
 obtain⟨_,hP1⟩:=lP1.has (ps:=["ground","thing"]) X G λF=>F.binds λ_ _ _ _ _ _ us hl=>by obtain⟨_,_,rfl⟩:=JJ hl;rfl
 obtain⟨_,hP2⟩:=lP2.has (ps:=["label"]) X G λF=>F.binds λ_ _ _ _ _ _ us hl=>by obtain⟨_,rfl⟩:=j8 hl;rfl
 obtain⟨_,hP3⟩:=lP3.has (ps:=["labels","heap"]) X G λF=>F.binds λ_ _ _ _ _ _ us hl=>by obtain⟨_,_,rfl⟩:=JJ hl;rfl
 obtain⟨_,hP4⟩:=lP4.has (ps:=["labels","heap"]) X G λF=>F.binds λ_ _ _ _ _ _ us hl=>by obtain⟨_,_,rfl⟩:=JJ hl;rfl
 obtain⟨_,hP5⟩:=lP5.has (ps:=["ground"]) X G λF=>F.binds λ_ _ _ _ _ _ us hl=>by obtain⟨_,rfl⟩:=j8 hl;rfl
 obtain⟨_,hP6⟩:=lP6.has (ps:=["ground","one","other"]) X G λF=>F.binds λ_ _ _ _ _ _ us hl=>by obtain⟨_,_,_,rfl⟩:=kY hl;rfl
 obtain⟨_,hP7⟩:=lP7.has (ps:=["ground","one","other"]) X G λF=>F.binds λ_ _ _ _ _ _ us hl=>by obtain⟨_,_,_,rfl⟩:=kY hl;rfl
 obtain⟨_,hC1⟩:=lC1.has (ps:=["_law_leads_here","_law_numbers","_law_name","_law_number"]) X G λF=>F.binds λ_ _ _ _ _ _ us hl=>by obtain⟨_,_,_,_,rfl⟩:=xV hl;rfl
 obtain⟨_,hC2⟩:=lC2.has (ps:=["_law_rows_here"]) X G λF=>F.binds λ_ _ _ _ _ _ us hl=>by obtain⟨_,rfl⟩:=j8 hl;rfl
 obtain⟨_,hC3⟩:=lC3.has (ps:=["_law_worths_here"]) X G λF=>F.binds λ_ _ _ _ _ _ us hl=>by obtain⟨_,rfl⟩:=j8 hl;rfl
 obtain⟨_,hC4⟩:=lC4.has (ps:=["_law_worth"]) X G λF=>F.binds λ_ _ _ _ _ _ us hl=>by obtain⟨_,rfl⟩:=j8 hl;rfl
 obtain⟨_,hC5⟩:=lC5.has (ps:=["_law_ground","_law_worths_here","_law_one","_law_other"]) X G λF=>F.binds λ_ _ _ _ _ _ us hl=>by obtain⟨_,_,_,_,rfl⟩:=xV hl;rfl
 obtain⟨_,hC6⟩:=lC6.has (ps:=["_law_call","_law_ground","_law_one","_law_other","_law_due"]) X G λF=>F.binds λ_ _ _ _ _ _ us hl=>by obtain⟨_,_,_,_,_,rfl⟩:=qan hl;rfl
 have FLAW:=Ue (st:=Wd) lLAW cLAW kLAW
 obtain⟨_,FiCG⟩:=lCGi
 have clCG:MB K mg CG fCGi _:=⟨⟨pgCG,hdCG,poCG,saCG⟩,⟨mkCG,inCG,fiCG,kcCG⟩,PySem.W.mg_of X G nCG,noCG,nrCG,FiCG,FiCG.binds (ps:=["self","rows"]) λ_ _ _ _ _ _ us hl=>by obtain⟨_,_,rfl⟩:=JJ hl;rfl⟩
 obtain⟨_,FCGM⟩:=lCGM
 have mCGM:YV K CG "names" "Ground.names" ZC ["self"] fCGM _:=⟨FCGM,⟨atCGM,fnCGM,FCGM.kp⟩,FCGM.binds (ps:=["self"]) λ_ _ _ _ _ _ us hl=>by obtain⟨_,rfl⟩:=j8 hl;rfl⟩
 obtain⟨_,FCGF⟩:=lCGF
 have mCGF:YV K CG "roads_from" "Ground.roads_from" Yr ["self","name"] fCGF _:=⟨FCGF,⟨atCGF,fnCGF,FCGF.kp⟩,FCGF.binds (ps:=["self","name"]) λ_ _ _ _ _ _ us hl=>by obtain⟨_,_,rfl⟩:=JJ hl;rfl⟩
 obtain⟨_,FiCN⟩:=lCNi
 have clCN:Cl K mg "Numbered" "Numbered.__init__" "number" Yl CN fCNi _:=⟨⟨pgCN,hdCN,poCN,saCN⟩,⟨mkCN,inCN,fiCN,kcCN⟩,PySem.W.mg_of X G nCN,naCN,FiCN,FiCN.binds (ps:=["self","number"]) λ_ _ _ _ _ _ us hl=>by obtain⟨_,_,rfl⟩:=JJ hl;rfl,caCN,obCN⟩
 obtain⟨_,FCNT⟩:=lCNT
 have mCNT:YV K CN "told" "Numbered.told" Yk ["self"] fCNT _:=⟨FCNT,⟨atCNT,fnCNT,FCNT.kp⟩,FCNT.binds (ps:=["self"]) λ_ _ _ _ _ _ us hl=>by obtain⟨_,rfl⟩:=j8 hl;rfl⟩
 obtain⟨_,FCNO⟩:=lCNO
 have mCNO:YV K CN "outcome" "Numbered.outcome" U5 ["self"] fCNO _:=⟨FCNO,⟨atCNO,fnCNO,FCNO.kp⟩,FCNO.binds (ps:=["self"]) λ_ _ _ _ _ _ us hl=>by obtain⟨_,rfl⟩:=j8 hl;rfl⟩
 obtain⟨_,FCNP⟩:=lCNP
 have mCNP:YV K CN "plus" "Numbered.plus" Wc ["self","other"] fCNP _:=⟨FCNP,⟨atCNP,fnCNP,FCNP.kp⟩,FCNP.binds (ps:=["self","other"]) λ_ _ _ _ _ _ us hl=>by obtain⟨_,_,rfl⟩:=JJ hl;rfl⟩
 obtain⟨_,FCNE⟩:=lCNE
 have mCNE:YV K CN "is_endless" "Numbered.is_endless" W3 ["self"] fCNE _:=⟨FCNE,⟨atCNE,fnCNE,FCNE.kp⟩,FCNE.binds (ps:=["self"]) λ_ _ _ _ _ _ us hl=>by obtain⟨_,rfl⟩:=j8 hl;rfl⟩
 obtain⟨_,FiCE⟩:=lCEi
 have clCE:Cl K mg "Endless" "Endless.__init__" "bits" Yt CE fCEi _:=⟨⟨pgCE,hdCE,poCE,saCE⟩,⟨mkCE,inCE,fiCE,kcCE⟩,PySem.W.mg_of X G nCE,naCE,FiCE,FiCE.binds (ps:=["self","bits"]) λ_ _ _ _ _ _ us hl=>by obtain⟨_,_,rfl⟩:=JJ hl;rfl,caCE,obCE⟩
 obtain⟨_,FCET⟩:=lCET
 have mCET:YV K CE "told" "Endless.told" Ys ["self"] fCET _:=⟨FCET,⟨atCET,fnCET,FCET.kp⟩,FCET.binds (ps:=["self"]) λ_ _ _ _ _ _ us hl=>by obtain⟨_,rfl⟩:=j8 hl;rfl⟩
 obtain⟨_,FCEO⟩:=lCEO
 have mCEO:YV K CE "outcome" "Endless.outcome" U8 ["self"] fCEO _:=⟨FCEO,⟨atCEO,fnCEO,FCEO.kp⟩,FCEO.binds (ps:=["self"]) λ_ _ _ _ _ _ us hl=>by obtain⟨_,rfl⟩:=j8 hl;rfl⟩
 obtain⟨_,FCEP⟩:=lCEP
 have mCEP:YV K CE "plus" "Endless.plus" Wg ["self","other"] fCEP _:=⟨FCEP,⟨atCEP,fnCEP,FCEP.kp⟩,FCEP.binds (ps:=["self","other"]) λ_ _ _ _ _ _ us hl=>by obtain⟨_,_,rfl⟩:=JJ hl;rfl⟩
 obtain⟨_,FCEE⟩:=lCEE
 have mCEE:YV K CE "is_endless" "Endless.is_endless" W5 ["self"] fCEE _:=⟨FCEE,⟨atCEE,fnCEE,FCEE.kp⟩,FCEE.binds (ps:=["self"]) λ_ _ _ _ _ _ us hl=>by obtain⟨_,rfl⟩:=j8 hl;rfl⟩
 have tl:∀h:Heap,K.In h->OwnTail h Qq (.ref D::Qq):=λh X=>.own (X _ _ oHE) ⟨_,es,ep,X _ _ nHE,rfl,uy skHE,λ_=>rfl⟩ niHE .base
 have ccD:K6 K D:=⟨Qq,⟨_,_,_,_,_,_,_,_,_,_,_,_,_,_,_,oHE⟩,rfl⟩
 obtain⟨_,FNoPlace⟩:=lNoPlace
 have xNoPlace:uf K mg D "NoPlace" "NoPlace.__init__" j6 "found" CNoPlace fNoPlace _:=R8 X G tl FNoPlace (FNoPlace.binds (ps:=["self","found"]) λ_ _ _ _ _ _ us hl=>by obtain⟨_,_,rfl⟩:=JJ hl;rfl) a1NoPlace a2NoPlace a3NoPlace a4NoPlace a5NoPlace a6NoPlace a7NoPlace a8NoPlace a9NoPlace a10NoPlace a11NoPlace a12NoPlace a13NoPlace
 have B:QJ mg:=⟨PySem.W.mg_none_of X G zlen,PySem.W.mg_none_of X G zmax,PySem.W.mg_none_of X G zmin,PySem.W.mg_none_of X G zint,PySem.W.mg_none_of X G zrange⟩
 have Gk:Qv mg:=⟨PySem.W.mg_none_of X G zsorted,PySem.W.mg_none_of X G zlist,PySem.W.mg_none_of X G zreversed,PySem.W.mg_none_of X G zset,PySem.W.mg_none_of X G ztuple⟩
 have T:QQ K mg:=⟨PySem.W.mg_none_of X G zisinstance,PySem.W.mg_none_of X G zstr,PySem.W.mg_none_of X G zall,PySem.W.mg_none_of X G zenumerate,PySem.W.mg_none_of X G zsum,⟨_,PySem.W.mg_of X G m1⟩,⟨_,PySem.W.mg_of X G m2⟩,⟨_,PySem.W.mg_of X G m3⟩,⟨_,PySem.W.mg_of X G m4⟩,kss,ktt,kll⟩
 have Nn:K4 K mg:=⟨⟨_,_,hA1⟩,⟨_,_,hA2⟩,⟨_,_,hA3⟩,⟨_,_,hA4⟩,⟨_,_,hA5⟩,⟨_,_,hA6⟩,⟨_,_,hA7⟩⟩
 have M:GM K mg CG:=⟨⟨_,_,clCG⟩,⟨_,_,mCGM⟩,⟨_,_,mCGF⟩,⟨_,_,hA1⟩⟩
 have Y:Ux K mg:=⟨⟨_,_,hB1⟩,⟨_,_,hB2⟩,⟨_,_,hB3⟩,⟨_,_,hB4⟩,⟨_,_,hB5⟩,⟨_,_,hB6⟩,⟨_,_,hB7⟩,⟨_,_,hB8⟩⟩
 have Wq:Wk K mg:=⟨PySem.W.mg_none_of X G zisinstance,PySem.W.mg_none_of X G zbool,kii,kib,⟨_,PySem.W.mg_of X G m5⟩,⟨_,PySem.W.mg_of X G m6⟩⟩
 let wf:WF K mg:=⟨CN,CE,fCNi,fCEi,fCNT,fCET,fCNO,fCEO,fCNP,fCEP,fCNE,fCEE,fW1,fW2,fW3,fW4,fW5,fB2,_,_,_,_,_,_,_,_,_,_,_,_,_,_,_,_,ne,clCN,clCE,mCNT,mCET,mCNO,mCEO,mCNP,mCEP,mCNE,mCEE,hW1,hW2,hW3,hW4,hW5,hB2⟩
 have S:w4 K:=⟨knb,ksb,kib,kbb,klb,ktb⟩
 have O:Uw K mg:=⟨⟨_,_,hP1⟩,⟨_,_,hP2⟩,⟨_,_,hW6⟩,⟨_,_,hP3⟩,⟨_,_,hP4⟩⟩
 have A1:w5 K mg:=⟨⟨_,_,hP5⟩,⟨_,_,hP6⟩,⟨_,_,hP7⟩⟩
 have W1:Nt K mg:=⟨⟨_,_,hC1⟩,⟨_,_,hC2⟩,⟨_,_,hC3⟩,⟨_,_,hC4⟩⟩
 have Z:My K mg:=⟨⟨_,_,hO⟩,⟨_,_,hL⟩,⟨_,_,hT⟩,⟨_,_,hN⟩,⟨_,_,hD⟩,⟨_,_,hR⟩,⟨_,_,hA8⟩,⟨_,_,hC5⟩,⟨_,_,hC6⟩⟩
 have ZE:Nq K mg D CNoPlace:=⟨PySem.W.mg_of X G aHE,ccD,w1,spc,tks⟩
 exact⟨PySem.W.fnOf "law" "law" (QW Wd) (Qd Wd) (qj Wd) .none kVLAW dcLAW pmLAW anLAW cdLAW ctLAW,λs v=>.of_eq rfl,λbase _ _=>RA FLAW wf B Wq Gk T S Nn M Y O A1 W1 Z (PySem.W.mg_none_of X G zdict) xNoPlace ZE⟩
theorem walk {l:PySem.W.OpenLaw} {q:Program} {loose:List Str} {XP:(Str->Option Value)->Heap->Prop} {YP:World->Heap->Prop} {d:DefRec} {K:Params->PySem.W.Frag} (hn:l.most=some 63) (hdf:d.params.defaults=[])
   (hY:∀(w:World) (h:Heap),YP w h->(K w.params).In h)
   (F:∀(w:World) (mg:Str->Option Value) (fa:Addr) (h:Heap),(K w.params).In h->h.Ns mainGlobals mg->mg d.name=some (.ref fa)->
     ∃fd:FuncData,(∀(s:Shared) (u:Value),BindsTo s fd ⟨[u],[]⟩ [("_law_script",u)])/\∀base:Heap,(K w.params).In base->base.Ns mainGlobals mg->qm l.prog w (K w.params) mg base qO 13 fa fd ["_law_script"] (UW (K w.params))):
   PySem.W.WalkO q loose XP YP l.row.toRowW d [] (λf vs=>PySem.call f vs):=
 L2.walk_of (n:=63) (k:=13) (x:="_law_script") (CX:=λ_=>qO) (sp:=λw=>UW (K w.params)) hn (by decide) hdf ⟨rfl,by decide,by decide,rfl⟩ hY F (λ_ _ a ns hl _ hS=>⟨a,ns,rfl,hS,hl,λ_=>rfl⟩) λ_ _ _ _ _ z=>z
end Rh
open PySem PySem.W PyProof.Rows
def PySem.W.Fast.tw2646345600932468536 : Unit := ()
def PySem.W.Fast.tw861502493610598483 : Unit := ()
def PySem.W.Fast.tw5496849259710009554 : Unit := ()
def PySem.W.Fast.tw4209513143971477052 : Unit := ()
def PySem.W.Fast.tw17071660069713835940 : Unit := ()
def PySem.W.Fast.tw7410891785012097005 : Unit := ()
def PySem.W.Fast.tw14506027330409587707 : Unit := ()
def PySem.W.Fast.tw7774113678449685934 : Unit := ()
def PySem.W.Fast.tw12428158363243832775 : Unit := ()
def PySem.W.Fast.tw8576567503900213490 : Unit := ()
def PySem.W.Fast.tw13019310290528795458 : Unit := ()
def PySem.W.Fast.tw10094546317475930288 : Unit := ()
def PySem.W.Fast.tw15797354312348517276 : Unit := ()
def PySem.W.Fast.tw15606834981724049387 : Unit := ()
def PySem.W.Fast.tw16046435833275179198 : Unit := ()
def PySem.W.Fast.tw9385439782273163706 : Unit := ()
def PySem.W.Fast.tw16378183091871739711 : Unit := ()
def PySem.W.Fast.tw12914328657175100586 : Unit := ()
def PySem.W.Fast.tw17267597263503486738 : Unit := ()
def PySem.W.Fast.tw1719895430356276633 : Unit := ()
def PySem.W.Fast.tw2786648768249225349 : Unit := ()
def PySem.W.Fast.tw13861969467909019144 : Unit := ()
def PySem.W.Fast.tw13367274342830030513 : Unit := ()
def PySem.W.Fast.tw3075201292733833056 : Unit := ()
def PySem.W.Fast.tw11334998314355692241 : Unit := ()
def PySem.W.Fast.tw7287024755602358488 : Unit := ()
def PySem.W.Fast.tw9057035906848192889 : Unit := ()
def PySem.W.Fast.tw2244103112122482387 : Unit := ()
def PySem.W.Fast.tw9461873434466728008 : Unit := ()
def PySem.W.Fast.tw17071478250421689845 : Unit := ()
def PySem.W.Fast.tw354308444213283272 : Unit := ()
def PySem.W.Fast.tw12798174099139212305 : Unit := ()
def PySem.W.Fast.tw9879335643197240621 : Unit := ()
def PySem.W.Fast.tw9113380124883318265 : Unit := ()
def PySem.W.Fast.tw1557068044175049091 : Unit := ()
def PySem.W.Fast.tw3215387988796971590 : Unit := ()
def PySem.W.Fast.tw5274481202262711730 : Unit := ()
def PySem.W.Fast.tw7220529860990300233 : Unit := ()
def PySem.W.Fast.tw5080578646193071916 : Unit := ()
def PySem.W.Fast.tw13831308528885131752 : Unit := ()
def PySem.W.Fast.tw16563755786747866690 : Unit := ()
def PySem.W.Fast.tw1378205811072252300 : Unit := ()
def PySem.W.Fast.tw694261584828832409 : Unit := ()
def PySem.W.Fast.tw5010956058597451964 : Unit := ()
def PySem.W.Fast.tw4562827626845409882 : Unit := ()
def PySem.W.Fast.tw3897268976836264337 : Unit := ()
def PySem.W.Fast.tw9399754086935153974 : Unit := ()
def PySem.W.Fast.tw8997383693586321770 : Unit := ()
def PySem.W.Fast.tw4483904966330829159 : Unit := ()
def PySem.W.Fast.tw17883462748017686043 : Unit := ()
def PySem.W.Fast.tw13343918040275786880 : Unit := ()
def PySem.W.Fast.tw11513857634932158529 : Unit := ()
def PySem.W.Fast.tw14782954611325821827 : Unit := ()
def PySem.W.Fast.tw3001726736283457656 : Unit := ()
def PySem.W.Fast.tw6690350156832105676 : Unit := ()
def PySem.W.Fast.tw11408881796089955267 : Unit := ()
def PySem.W.Fast.tw7943549864190904611 : Unit := ()
def PySem.W.Fast.tw6148498323302512570 : Unit := ()
def PySem.W.Fast.tw17260811203177919210 : Unit := ()
def PySem.W.Fast.tw8115137120850386438 : Unit := ()
def PySem.W.Fast.tw15166322114958858414 : Unit := ()
def PySem.W.Fast.tw6084841979344569690 : Unit := ()
def PySem.W.Fast.tw16864618592142003386 : Unit := ()
def PySem.W.Fast.tw7164969610272591079 : Unit := ()
def PySem.W.Fast.tw4734895289157585001 : Unit := ()
def PySem.W.Fast.tw6858818405166986180 : Unit := ()
def PySem.W.Fast.tw15861351967447197489 : Unit := ()
def PySem.W.Fast.tw14243238205550065757 : Unit := ()
def PySem.W.Fast.tw8565224436197482051 : Unit := ()
def PySem.W.Fast.tw1607123104830579860 : Unit := ()
def PySem.W.Fast.tw8080008513338510535 : Unit := ()
def PySem.W.Fast.tw2827255003249426055 : Unit := ()
def PySem.W.Fast.tw5444512763150141072 : Unit := ()
def PySem.W.Fast.tw16822532161544500889 : Unit := ()
def PySem.W.Fast.tw17659185236578331656 : Unit := ()
def PySem.W.Fast.tw4334401890000744311 : Unit := ()
def PySem.W.Fast.tw866717566613908145 : Unit := ()
def PySem.W.Fast.tw10295913840692754127 : Unit := ()
def PySem.W.Fast.tw11066385474520676512 : Unit := ()
def PySem.W.Fast.tw9630203353718772412 : Unit := ()
def PySem.W.Fast.tw8995945545434573385 : Unit := ()
def PySem.W.Fast.tw5344687154915797982 : Unit := ()
def PySem.W.Fast.tw15577281813014381367 : Unit := ()
def PySem.W.Fast.tw3300257896294614128 : Unit := ()
def PySem.W.Fast.tw11384182702204212275 : Unit := ()
def PySem.W.Fast.tw12297992134047619483 : Unit := ()
def PySem.W.Fast.tw1915925776726481438 : Unit := ()
def PySem.W.Fast.tw13385558918117058561 : Unit := ()
def PySem.W.Fast.tw15831126876759372255 : Unit := ()
def PySem.W.Fast.tw3778530596728393105 : Unit := ()
def PySem.W.Fast.tw13953587524928339648 : Unit := ()
def PySem.W.Fast.tw3520257249291928256 : Unit := ()
def PySem.W.Fast.tw14424681132571578402 : Unit := ()
def PySem.W.Fast.tw15685335758407661847 : Unit := ()
def PySem.W.Fast.tw14592624751514493413 : Unit := ()
def PySem.W.Fast.tw1956775160557780875 : Unit := ()
def PySem.W.Fast.tw6575520176995025181 : Unit := ()
def PySem.W.Fast.tw11907897558876765624 : Unit := ()
def PySem.W.Fast.tw17435391645217708394 : Unit := ()
def PySem.W.Fast.tw1835071406663858368 : Unit := ()
def PySem.W.Fast.tw15173544498738437827 : Unit := ()
def PySem.W.Fast.tw6542358382571353910 : Unit := ()
def PySem.W.Fast.tw15554417296805563061 : Unit := ()
def PySem.W.Fast.tw14226173905949225808 : Unit := ()
def PySem.W.Fast.tw10698057553749749337 : Unit := ()
def PySem.W.Fast.tw2474200967059427378 : Unit := ()
def PySem.W.Fast.tw14903569129155370506 : Unit := ()
def PySem.W.Fast.tw17691633702590694504 : Unit := ()
def PySem.W.Fast.tw3592811809046731828 : Unit := ()
def PySem.W.Fast.tw4804111812005502284 : Unit := ()
def PySem.W.Fast.tw2931988195819169919 : Unit := ()
def PySem.W.Fast.tw16860917588515726111 : Unit := ()
def PySem.W.Fast.tw6549852094080907030 : Unit := ()
def PySem.W.Fast.tw2358075552688931204 : Unit := ()
def PySem.W.Fast.tw384561282630992784 : Unit := ()
def PySem.W.Fast.tw9320515035125037321 : Unit := ()
def PySem.W.Fast.tw14611616552423853409 : Unit := ()
def PySem.W.Fast.tw5289818103960998278 : Unit := ()
def PySem.W.Fast.tw3049343062529576306 : Unit := ()
def PySem.W.Fast.tw1293241653719404408 : Unit := ()
def PySem.W.Fast.tw10624116801336726872 : Unit := ()
def PySem.W.Fast.tw8186657734068701312 : Unit := ()
def PySem.W.Fast.tw6548459193220583526 : Unit := ()
def PySem.W.Fast.tw9784134513789038367 : Unit := ()
def PySem.W.Fast.tw2629151800749243262 : Unit := ()
def PySem.W.Fast.tw1864683662541468164 : Unit := ()
def PySem.W.Fast.tw15621415185263527259 : Unit := ()
def PySem.W.Fast.tw5217270863462422736 : Unit := ()
def PySem.W.Fast.tw5537553045615171315 : Unit := ()
def PySem.W.Fast.tw12488014758255163090 : Unit := ()
def PySem.W.Fast.tw4189273013823423559 : Unit := ()
def PySem.W.Fast.tw4436474186459923750 : Unit := ()
def PySem.W.Fast.tw13946496683202179788 : Unit := ()
def PySem.W.Fast.tw17678831435119133177 : Unit := ()
def PySem.W.Fast.tw14958820412457663293 : Unit := ()
def PySem.W.Fast.tw11401859456886640639 : Unit := ()
def PySem.W.Fast.tw16756451883985382160 : Unit := ()
def PySem.W.Fast.tw5467331546851215429 : Unit := ()
def PySem.W.Fast.tw2228412568605170491 : Unit := ()
def PySem.W.Fast.tw4906484309439969231 : Unit := ()
def PySem.W.Fast.tw10792498714594961201 : Unit := ()
def PySem.W.Fast.tw5622701340561072331 : Unit := ()
def PySem.W.Fast.tw15214748959534726111 : Unit := ()
def PySem.W.Fast.tw8739830900816887780 : Unit := ()
def PySem.W.Fast.tw7921390202802761869 : Unit := ()
def PySem.W.Fast.tw15541240446876304647 : Unit := ()
def PySem.W.Fast.tw4480162626587320490 : Unit := ()
def PySem.W.Fast.tw9331231397406362311 : Unit := ()
def PySem.W.Fast.tw17613222154834848340 : Unit := ()
def PySem.W.Fast.tw4884199854448574 : Unit := ()
def PySem.W.Fast.tw11153475782318119604 : Unit := ()
def PySem.W.Fast.tw10861573186032746274 : Unit := ()
def PySem.W.Fast.tw866652123128751154 : Unit := ()
def PySem.W.Fast.tw5667099127317398114 : Unit := ()
def PySem.W.Fast.tw4075453323654395381 : Unit := ()
set_option maxRecDepth 100000
set_option maxHeartbeats 0
open_top hd for PySem.Challenge.rw_ringheaps_k81_places_alike_or_parted
set_option maxRecDepth 100000 in
set_option maxHeartbeats 0 in
theorem PySem.Challenge.cw_ringheaps_k81_places_alike_or_parted_holds : PySem.Challenge.rw_ringheaps_k81_places_alike_or_parted.Holds := by
 refine hd ?_
 k_fill
 refine Rh.walk (l:=PySem.Challenge.rw_ringheaps_k81_places_alike_or_parted) rfl rfl (λw h Y=>PySem.W.kIn_of Y) ?F
 case F=>
   intro w mg fa h KX G hmg
   refine' Rh.all_mk KX G hmg ?_ ?_ ?_ ?_ ?_ ?_ ?_ ?_ ?_ ?_ ?_ ?_ ?_ ?_ ?_ ?_ ?_ ?_ ?_ ?_ ?_ ?_ ?_ ?_ ?_ ?_ ?_ ?_ ?_ ?_ ?_ ?_ ?_ ?_ ?_ ?_ ?_ ?_ ?_ ?_ ?_ ?_ ?_ ?_ ?_ ?_ ?_ ?_ ?_ ?_ ?_ ?_ ?_ ?_ ?_ ?_ ?_ ?_ ?_ ?_ ?_ ?_ ?_ ?_ ?_ ?_ ?_ ?_ ?_ ?_ ?_ ?_ ?_ ?_ ?_ ?_ ?_ ?_ ?_ ?_ ?_ ?_ ?_ ?_ ?_ ?_ ?_ ?_ ?_ ?_ ?_ ?_ ?_ ?_ ?_ ?_ ?_ ?_ ?_ ?_ ?_ ?_ ?_ ?_ ?_ ?_ ?_ ?_ ?_ ?_ ?_ ?_ ?_ ?_ ?_ ?_ ?_ ?_ ?_ ?_ ?_ ?_ ?_ ?_ ?_ ?_ ?_ ?_ ?_ ?_ ?_ ?_ ?_ ?_ ?_ ?_ ?_ ?_ ?_ ?_ ?_ ?_ ?_ ?_ ?_ ?_ ?_ ?_ ?_ ?_ ?_ ?_ ?_ ?_ ?_ ?_ ?_ ?_ ?_
   any_goals first | (apply Rh.HF.mk'<;>k_is) | (apply Rh.MF.mk'<;>k_is) | k_is | kernel_rfl | rfl | decide
