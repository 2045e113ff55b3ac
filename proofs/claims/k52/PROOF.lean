import PyProof.Rows.All
import Wide.All
import OpenK.AllK
import Wide.FinOn
import Lean
import PyProof.EqAt
import PyProof.EqKinds
import PyProof.TupleCall
import PySem.Challenge.RW_ringheaps_k52_outcomes_that_moves_leave
set_option Elab.async false
set_option linter.all false
set_option maxRecDepth 100000
namespace L2
open PySem PySem.Spec PyProof.Rows
abbrev Key := Sum Int Str
def keyIs : Key -> Value -> Bool
 | .inl k, v => Value.isInt k v
 | .inr x, v => Value.isStrOf x v
def keyH (w : World) : Key -> Int
 | .inl k => hashInt k
 | .inr x => hashStr w x
theorem qbc : ∀ {k : Key} {v : Value}, keyIs k v = true -> (∃ i t, k = Sum.inl i /\ v = Value.int i t) ∨ (∃ x t, k = Sum.inr x /\ v = Value.str x t)
 | .inl i, v, h => by
   obtain ⟨t, e⟩ := Value.isInt_shape (k := i) (v := v) h
   exact .inl ⟨i, t, rfl, e⟩
 | .inr x, v, h => by
   obtain ⟨t, e⟩ := Value.isStrOf_shape (x := x) (v := v) h
   exact .inr ⟨x, t, rfl, e⟩
theorem keyIs_int (i : Int) (t : Tok) : keyIs (.inl i) (.int i t) = true := by simp [keyIs, Value.isInt]
theorem keyIs_str (x : Str) (t : Tok) : keyIs (.inr x) (.str x t) = true := by simp [keyIs, Value.isStrOf]
theorem key_ll (a b : Int) : decide ((Sum.inl a : Key) = Sum.inl b) = (a == b) := by
 by_cases e : a = b
 . subst e; simp
 . have h : ¬ (Sum.inl a : Key) = Sum.inl b := fun q => e (Sum.inl.inj q)
   rw [decide_eq_false h]
   exact (beq_eq_false_iff_ne.mpr e).symm
theorem key_rr (a b : Str) : decide ((Sum.inr a : Key) = Sum.inr b) = decide (a = b) := by
 by_cases e : a = b
 . subst e; simp
 . have h : ¬ (Sum.inr a : Key) = Sum.inr b := fun q => e (Sum.inr.inj q)
   rw [decide_eq_false h, decide_eq_false e]
theorem key_lr (a : Int) (b : Str) : decide ((Sum.inl a : Key) = Sum.inr b) = false := decide_eq_false (fun q => nomatch q)
theorem key_rl (a : Str) (b : Int) : decide ((Sum.inr a : Key) = Sum.inl b) = false := decide_eq_false (fun q => nomatch q)
def mixKind (prog : Program) (w : World) : PySem.KeyKind prog w Key where
 is := keyIs
 hash := keyH w
 inj := fun v a b ha hb => by
   rcases qbc ha with ⟨i, t, rfl, rfl⟩ | ⟨x, t, rfl, rfl⟩
   . rcases qbc hb with ⟨j, u, rfl, e⟩ | ⟨y, u, rfl, e⟩
     . injection e with e1 _; rw [e1]
     . exact nomatch e
   . rcases qbc hb with ⟨j, u, rfl, e⟩ | ⟨y, u, rfl, e⟩
     . exact nomatch e
     . injection e with e1 _; rw [e1]
 byValue := fun k v h => by
   rcases qbc h with ⟨i, t, rfl, rfl⟩ | ⟨x, t, rfl, rfl⟩ <;> rfl
 pyHash := fun hv h => by
   rcases qbc hv with ⟨i, t, rfl, rfl⟩ | ⟨x, t, rfl, rfl⟩
   . exact wpAny_pyHash_int h
   . exact wpAny_pyHash_str h
 eqBool := fun hu hv h => by
   rcases qbc hu with ⟨i, t, rfl, rfl⟩ | ⟨x, t, rfl, rfl⟩
   . rcases qbc hv with ⟨j, u, rfl, rfl⟩ | ⟨y, u, rfl, rfl⟩
     . rw [key_ll] at h; exact wpAny_eqBool_int h
     . rw [key_lr] at h; exact SeqAt.EqAt.int_str i t y u _ _ _ _ h
   . rcases qbc hv with ⟨j, u, rfl, rfl⟩ | ⟨y, u, rfl, rfl⟩
     . rw [key_rl] at h; exact SeqAt.EqAt.str_int x t j u _ _ _ _ h
     . rw [key_rr] at h; exact wpAny_eqBool_str h
 «strs» := fun k x t v h => by
   rcases qbc h with ⟨i, u, rfl, e⟩ | ⟨y, u, rfl, e⟩
   . exact nomatch e
   . injection e with e1 _
     subst e1
     cases v <;> rfl
theorem mixKind_int (prog : Program) (w : World) (i : Int) (t : Tok) : (mixKind prog w).is (.inl i) (.int i t) = true := keyIs_int i t
theorem mixKind_str (prog : Program) (w : World) (x : Str) (t : Tok) : (mixKind prog w).is (.inr x) (.str x t) = true := keyIs_str x t
end L2
namespace L2
open PySem PySem.Spec PyProof.Rows
inductive V where
 | non | bl (b : Bool) | int (i : Int) | str (x : Str) | byt (b : Array UInt8) | flt (b : UInt64) | ref (a : Addr) | ty (n : String)
 deriving DecidableEq
def RelV : V -> Value -> Prop
 | .non, u => u = Value.none
 | .bl b, u => u = Value.bool b
 | .int i, u => ∃ t, u = Value.int i t
 | .str x, u => ∃ t, u = Value.str x t
 | .byt b, u => ∃ t, u = Value.bytes b t
 | .flt b, u => ∃ t, u = Value.float b t
 | .ref a, u => u = Value.ref a
 | .ty n, u => u = Value.type n
abbrev Vals : List V -> List Value -> Prop := Paired RelV
theorem Vals.length {xs : List V} {us : List Value} (r : Vals xs us) : xs.length = us.length := Paired.length r
theorem Vals.get : ∀ {xs : List V} {us : List Value} {i : Nat} {x : V}, Vals xs us -> xs[i]? = some x -> ∃ u, us[i]? = some u /\ RelV x u
 | _, _, _, _, .nil, e => by simp at e
 | _, _, 0, _, .cons r _, e => by simp at e; subst e; exact ⟨_, rfl, r⟩
 | _, _, i + 1, x, .cons _ t, e => by
   obtain ⟨u, h1, h2⟩ := Vals.get (i := i) (x := x) t (by simpa using e)
   exact ⟨u, by simpa using h1, h2⟩
theorem Vals.set {x : V} {u : Value} (r : RelV x u) : ∀ {xs : List V} {us : List Value} (i : Nat), Vals xs us -> Vals (xs.set i x) (us.set i u)
 | _, _, _, .nil => .nil
 | _, _, 0, .cons _ t => .cons r t
 | _, _, i + 1, .cons q t => .cons q (Vals.set r i t)
theorem Vals.append : ∀ {xs ys : List V} {us ws : List Value}, Vals xs us -> Vals ys ws -> Vals (xs ++ ys) (us ++ ws)
 | _, _, _, _, .nil, s => s
 | _, _, _, _, .cons r t, s => .cons r (Vals.append t s)
theorem Vals.take : ∀ {xs : List V} {us : List Value} (n : Nat), Vals xs us -> Vals (xs.take n) (us.take n)
 | _, _, 0, _ => .nil
 | _, _, _ + 1, .nil => .nil
 | _, _, n + 1, .cons r t => .cons r (Vals.take n t)
theorem Vals.drop : ∀ {xs : List V} {us : List Value} (n : Nat), Vals xs us -> Vals (xs.drop n) (us.drop n)
 | _, _, 0, r => r
 | _, _, _ + 1, .nil => .nil
 | _, _, n + 1, .cons _ t => Vals.drop n t
theorem Vals.none_of : ∀ {xs : List V} {us : List Value} {i : Nat}, Vals xs us -> xs[i]? = none -> us[i]? = none := fun {xs us i} r e => by
 have h1 := r.length
 have h2 : xs.length <= i := List.getElem?_eq_none_iff.mp e
 exact List.getElem?_eq_none_iff.mpr (by omega)
def RelO : Option V -> Option Value -> Prop
 | some v, some u => RelV v u
 | none, none => True
 | _, _ => False
def KV {κ : Type} : List (κ × V) -> List (κ × Value) -> Prop := Paired fun (p : κ × V) (q : κ × Value) => p.1 = q.1 /\ RelV p.2 q.2
def kV : Key -> V
 | .inl i => .int i
 | .inr x => .str x
inductive HO where
 | lst (xs : List V)
 | tup (xs : List V)
 | dK (kvs : List (Key × V)) | dT (kvs : List (List Key × V))
 | set (S : Int -> Bool) (n : Nat)
 | ins (C dx : Addr) (fs : List (Str × V))
 | own (x : Addr)
 | xd (fs : List (Str × V))
 | met (f x : Addr)
 | rng (lo hi : Int)
 | frz (o : Obj) (u : HO)
 | tbl (ps : Array Value)
 | ext (φ : Heap -> Prop)
abbrev Hp := Addr -> Option HO
def upd (H : Hp) (a : Addr) (o : HO) : Hp := fun b => if b = a then some o else H b
theorem qab {H : Hp} {a : Addr} {o : HO} : upd H a o a = some o := by unfold upd; rw [if_pos rfl]
theorem qah {H : Hp} {a b : Addr} {o : HO} (h : b ≠ a) : upd H a o b = H b := by unfold upd; rw [if_neg h]
theorem qbl {H : Hp} {a : Addr} {o u : HO} : upd (upd H a o) a u = upd H a u := by
 funext b; unfold upd; split <;> rfl
theorem ne_of {H : Hp} {a b : Addr} {o u : HO} (h : H a = some o) (h' : H b = some u) (d : o ≠ u) : a ≠ b := by
 intro e; subst e; rw [h] at h'; exact d (Option.some.inj h')
theorem qam {H : Hp} {a b : Addr} {o : HO} (h : H a = some o) (h' : H b = none) : a ≠ b := by
 intro e; subst e; rw [h] at h'; cases h'
section
variable (P : Program) (w : World)
def ObjOk (H : Hp) (h : Heap) (a : Addr) : HO -> Prop
 | .lst xs => xs.length <= sizeLine /\ ∃ (its : List Value) (n : Nat), Vals xs its /\ h.get? a = some { cls := .type "list", data := .seq its.toArray n }
 | .tup xs => xs.length <= sizeLine /\ ∃ its : List Value, Vals xs its /\ IsTup h a its.toArray
 | .dK kvs => kvs.length <= sizeLine /\ (a == sysModules) = false /\ ∃ vs, KV kvs vs /\ h.DictOf (mixKind P w) a vs
 | .dT kvs => kvs.length <= sizeLine /\ (a == sysModules) = false /\ ∃ xs : List (List Key × Addr × Value),
     Paired (fun (p : List Key × V) (q : List Key × Addr × Value) => p.1 = q.1 /\ H q.2.1 = some (.tup (p.1.map kV)) /\ RelV p.2 q.2.2) kvs xs ∧
     ∃ o es ep, h.get? a = some o /\ o.ExactDict /\ o.data = .dict es ep /\ es.toList = xs.map (entryOfKey (tupleKind (mixKind P w))) /\ (xs.map (·.1)).Nodup
 | .set S n => h.SetOf (intKind P w) a S n
 | .ins C dx fs => H dx = some (.own a) /\ fs.length <= 1000 /\ dx ≠ a /\ h.get? a = some (PySem.W.instObj C dx) ∧
     ∃ mA, h.Ns1 dx mA /\ (∀ f, RelO (fs.lookup f) (mA f)) /\ PySem.Within mA (fs.map (·.1))
 | .own _ => ∃ o, h.get? a = some o
 | .xd fs => ∃ mA, h.Ns1 a mA /\ ∀ f, RelO (fs.lookup f) (mA f)
 | .rng lo hi => ∃ t u v, h.get? a = some { cls := .type "range", data := .fields #[.int lo t, .int hi u, .int 1 v] }
 | .frz o u => h.get? a = some o /\ ObjOk H h a u
 | .tbl ps => h.get? a = some { cls := .none, data := .fields ps }
 | .met f x => h.get? a = some (PySem.W.methodObj (.ref f) (.ref x))
 | .ext φ => φ h /\ (∃ o, h.get? a = some o) /\ ∀ h1 h2 : Heap, φ h1 -> (∀ o, h1.get? a = some o -> h2.get? a = some o) -> φ h2
def HOk (H : Hp) (h : Heap) : Prop := ∀ a o, H a = some o -> ObjOk P w H h a o
end
section
variable {P : Program} {w : World} {H H' : Hp} {h h' : Heap} {a : Addr} {o : HO}
theorem ObjOk.lt (x : ObjOk P w H h a o) : a < h.objs.size := by
 cases o with
 | lst xs => obtain ⟨_, _, _, _, e⟩ := x; exact Heap.lt_size e
 | tup xs => obtain ⟨_, _, _, p⟩ := x; exact p.lt
 | dK kvs => obtain ⟨_, _, _, _, o, _, _, e, _⟩ := x; exact Heap.lt_size e
 | dT kvs => obtain ⟨_, _, _, _, o, _, _, e, _⟩ := x; exact Heap.lt_size e
 | set S n => obtain ⟨o, _, _, _, e, _⟩ := x; exact Heap.lt_size e
 | ins C dx fs => obtain ⟨_, _, _, e, _⟩ := x; exact Heap.lt_size e
 | own y => obtain ⟨_, e⟩ := x; exact Heap.lt_size e
 | xd fs => obtain ⟨_, ⟨_, _, _, e, _⟩, _⟩ := x; exact Heap.lt_size e
 | rng lo hi => obtain ⟨_, _, _, e⟩ := x; exact Heap.lt_size e
 | frz ob u => obtain ⟨e, _⟩ := x; exact Heap.lt_size e
 | tbl ps => exact Heap.lt_size (show h.get? a = some _ from x)
 | met f y => exact Heap.lt_size (show h.get? a = some _ from x)
 | ext φ => obtain ⟨_, ⟨_, e⟩, _⟩ := x; exact Heap.lt_size e
theorem Paired.mapP {α β : Type} {F G : α -> β -> Prop} : ∀ {l₁ : List α} {l₂ : List β}, Paired F l₁ l₂ -> (∀ a b, F a b -> G a b) -> Paired G l₁ l₂
 | _, _, .nil, _ => .nil
 | _, _, .cons r t, f => .cons (f _ _ r) (Paired.mapP t f)
theorem ObjOk.stay (x : ObjOk P w H h a o) (k : ∀ b u, (b = a ∨ H b = some (.own a)) -> h.get? b = some u -> h'.get? b = some u)
   (ho : ∀ b, H b = some (.own a) -> H' b = some (.own a)) (ht : ∀ b xs, H b = some (.tup xs) -> H' b = some (.tup xs)) : ObjOk P w H' h' a o := by
 induction o with
 | lst xs => obtain ⟨z, its, n, r, e⟩ := x; exact ⟨z, its, n, r, k _ _ (.inl rfl) e⟩
 | tup xs => obtain ⟨z, its, r, ob, e, c⟩ := x; exact ⟨z, its, r, ob, k _ _ (.inl rfl) e, c⟩
 | dK kvs => obtain ⟨z, y, vs, r, ob, es, ep, e, c⟩ := x; exact ⟨z, y, vs, r, ob, es, ep, k _ _ (.inl rfl) e, c⟩
 | dT kvs =>
   obtain ⟨z, y, xs, r, ob, es, ep, e, c⟩ := x
   exact ⟨z, y, xs, Paired.mapP r fun p q z => ⟨z.1, ht _ _ z.2.1, z.2.2⟩, ob, es, ep, k _ _ (.inl rfl) e, c⟩
 | set S n => obtain ⟨ob, es, ep, t, e, c⟩ := x; exact ⟨ob, es, ep, t, k _ _ (.inl rfl) e, c⟩
 | ins C dx fs =>
   obtain ⟨d, z, ne, e, mA, ⟨od, es, ep, e2, c⟩, r⟩ := x
   exact ⟨ho _ d, z, ne, k _ _ (.inl rfl) e, mA, ⟨od, es, ep, k _ _ (.inr d) e2, c⟩, r⟩
 | own y => obtain ⟨ob, e⟩ := x; exact ⟨ob, k _ _ (.inl rfl) e⟩
 | xd fs => obtain ⟨mA, ⟨od, es, ep, e, c⟩, r⟩ := x; exact ⟨mA, ⟨od, es, ep, k _ _ (.inl rfl) e, c⟩, r⟩
 | rng lo hi => obtain ⟨t, u, v, e⟩ := x; exact ⟨t, u, v, k _ _ (.inl rfl) e⟩
 | frz ob u ih => obtain ⟨e, q⟩ := x; exact ⟨k _ _ (.inl rfl) e, ih q⟩
 | tbl ps =>
   have e : h.get? a = some { cls := .none, data := .fields ps } := x
   show h'.get? a = some { cls := .none, data := .fields ps }
   exact k a _ (.inl rfl) e
 | met f y =>
   have e : h.get? a = some (PySem.W.methodObj (.ref f) (.ref y)) := x
   show h'.get? a = some (PySem.W.methodObj (.ref f) (.ref y))
   exact k a _ (.inl rfl) e
 | ext φ => obtain ⟨p, ⟨o, e⟩, st⟩ := x; exact ⟨st _ _ p fun o q => k _ _ (.inl rfl) q, ⟨o, k _ _ (.inl rfl) e⟩, st⟩
theorem HOk.lt (x : HOk P w H h) (e : H a = some o) : a < h.objs.size := (x a o e).lt
theorem HOk.fresh (x : HOk P w H h) (e : h.objs.size <= a) : H a = none := by
 cases q : H a with
 | none => rfl
 | some u => exact absurd (Nat.lt_of_lt_of_le (x.lt q) e) (Nat.lt_irrefl _)
theorem HOk.kept (x : HOk P w H h) (k : ∀ b u, h.get? b = some u -> h'.get? b = some u) : HOk P w H h' := fun a o e =>
 (x a o e).stay (fun b u _ q => k b u q) (fun _ q => q) fun _ _ q => q
theorem HOk.laid (x : HOk P w H h) (k : ∀ b u, h.get? b = some u -> h'.get? b = some u) (hp : h.objs.size <= a) (new : ObjOk P w (upd H a o) h' a o) : HOk P w (upd H a o) h' := fun b u e => by
 have hn := x.fresh hp
 by_cases hb : b = a
 . subst hb; rw [qab] at e; cases e; exact new
 . rw [qah hb] at e
   exact (x b u e).stay (fun c v _ q => k c v q) (fun c q => by rw [qah (qam q hn)]; exact q) fun c xs q => by rw [qah (qam q hn)]; exact q
end
def Rd (H : Hp) (a : Addr) (u : HO) : Prop := H a = some u ∨ ∃ o, H a = some (.frz o u)
theorem Rd.ok {P : Program} {w : World} {H : Hp} {h : Heap} {a : Addr} {u : HO} (r : Rd H a u) (x : HOk P w H h) : ObjOk P w H h a u := by
 rcases r with r | ⟨o, r⟩
 . exact x a u r
 . obtain ⟨_, q⟩ := x a _ r
   exact q
def Mut : Option HO -> Prop
 | some (.lst _) => True
 | some (.dK _) => True
 | some (.dT _) => True
 | some (.set _ _) => True
 | some (.ins _ _ _) => True
 | some (.ext _) => True
 | _ => False
section
variable {P : Program} {w : World} {H : Hp} {h h' : Heap} {x e : Addr} {o' : HO}
theorem HOk.write (ok : HOk P w H h) (mu : Mut (H x)) (he : e = x ∨ H e = some (.own x)) (k : ∀ b u, b ≠ e -> h.get? b = some u -> h'.get? b = some u) (heo : ∃ u, h'.get? e = some u)
   (new : ObjOk P w (upd H x o') h' x o') : HOk P w (upd H x o') h' := fun b u q => by
 have nown : ∀ c y, H c = some (.own y) -> c ≠ x := fun c y r z => by subst z; rw [r] at mu; exact mu
 have ntup : ∀ c xs, H c = some (.tup xs) -> c ≠ x := fun c xs r z => by subst z; rw [r] at mu; exact mu
 by_cases hb : b = x
 . subst hb; rw [qab] at q; cases q; exact new
 . rw [qah hb] at q
   by_cases hbe : b = e
   . have q' : H b = some (.own x) := by
       rcases he with z | z
       . exact absurd (hbe.trans z) hb
       . rw [hbe]; exact z
     rw [q] at q'; cases q'
     obtain ⟨v, hv⟩ := heo
     exact ⟨v, by rw [hbe]; exact hv⟩
   . refine (ok b u q).stay (fun c v hc r => k c v ?_ r) (fun c r => by rw [qah (nown c b r)]; exact r) fun c xs r => by rw [qah (ntup c xs r)]; exact r
     rcases hc with rfl | hc
     . exact hbe
     . rintro rfl
       rcases he with z | z
       . exact nown c b hc z
       . rw [hc] at z; cases z; exact hb rfl
end
structure Un (fs ex : List Addr) (H H' : Hp) (h h' : Heap) : Prop where
 keep : ∀ b o, h.get? b = some o -> H b = none -> b ∉ fs -> b ∉ ex -> h'.get? b = some o
 slot : ∀ b o, h.get? b = some o -> H b = none -> b ∈ fs -> b ∉ ex -> ∃ sl, h'.get? b = some { o with slots := sl }
 free : ∀ b o, h.get? b = some o -> H b = none -> b ∉ ex -> H' b = none
 there : ∀ b o, h.get? b = some o -> b ∉ ex -> ∃ o', h'.get? b = some o'
 tups : ∀ b xs, H b = some (.tup xs) -> H' b = some (.tup xs)
 frzs : ∀ b o u, H b = some (.frz o u) -> H' b = some (.frz o u)
 tbls : ∀ b ps, H b = some (.tbl ps) -> ∃ more, H' b = some (.tbl (ps ++ more))
section
variable {fs fs' ex ex' : List Addr} {H H1 H2 : Hp} {h h1 h2 h' : Heap} {a x e : Addr} {o : HO}
theorem Un.any (u : Un fs ex H H1 h h1) {b : Addr} {ob : Obj} (q : h.get? b = some ob) (n : H b = none) (hx : b ∉ ex) : ∃ sl, h1.get? b = some { ob with slots := sl } := by
 by_cases hb : b ∈ fs
 . exact u.slot b ob q n hb hx
 . exact ⟨ob.slots, u.keep b ob q n hb hx⟩
theorem Un.kept (k : ∀ b u, h.get? b = some u -> h'.get? b = some u) : Un fs ex H H h h' :=
 ⟨fun b ob q _ _ _ => k b ob q, fun b ob q _ _ _ => ⟨ob.slots, k b ob q⟩, fun _ _ _ n _ => n, fun b ob q _ => ⟨ob, k b ob q⟩, fun _ _ q => q, fun _ _ _ q => q, fun _ ps q => ⟨#[], by rw [q]; simp⟩⟩
theorem Un.refl : Un fs ex H H h h := Un.kept fun _ _ q => q
theorem Un.laid (k : ∀ b u, h.get? b = some u -> h'.get? b = some u) (hp : h.objs.size <= a) (hn : H a = none) : Un fs ex H (upd H a o) h h' where
 keep := fun b u q _ _ _ => k b u q
 slot := fun b u q _ _ _ => ⟨u.slots, k b u q⟩
 free := fun b u q n _ => by rw [qah (Nat.ne_of_lt (Nat.lt_of_lt_of_le (Heap.lt_size q) hp))]; exact n
 there := fun b u q _ => ⟨u, k b u q⟩
 tups := fun b xs q => by rw [qah (qam q hn)]; exact q
 frzs := fun b u xs q => by rw [qah (qam q hn)]; exact q
 tbls := fun b ps q => ⟨#[], by rw [qah (qam q hn), q]; simp⟩
theorem Un.write (mu : Mut (H x)) (he : e = x ∨ H e = some (.own x)) (k : ∀ b u, b ≠ e -> h.get? b = some u -> h'.get? b = some u) (heo : ∃ u, h'.get? e = some u) : Un fs ex H (upd H x o) h h' := by
 have hx : ∀ b, H b = none -> b ≠ x := fun b n z => by subst z; rw [n] at mu; exact mu
 have hb : ∀ b, H b = none -> b ≠ e := fun b n z => by
   subst z
   rcases he with r | r
   . exact hx b n r
   . rw [n] at r; cases r
 have hm : ∀ b u, H b = some u -> ¬ Mut (some u) -> b ≠ x := fun b u q nm z => by subst z; rw [q] at mu; exact nm mu
 refine ⟨fun b u q n _ _ => k b u (hb b n) q, fun b u q n _ _ => ⟨u.slots, k b u (hb b n) q⟩, fun b u q n _ => by rw [qah (hx b n)]; exact n, fun b u q _ => ?_,
   fun b xs q => by rw [qah (hm b _ q fun z => z)]; exact q, fun b u xs q => by rw [qah (hm b _ q fun z => z)]; exact q, fun b ps q => ⟨#[], by rw [qah (hm b _ q fun z => z), q]; simp⟩⟩
 by_cases hbe : b = e
 . subst hbe; exact heo
 . exact ⟨u, k b u hbe q⟩
end
def trk (h : Heap) (H : Hp) : List Addr := (List.range h.objs.size).filter fun a => (H a).isSome
def hidT (h : Heap) (H : Hp) : Heap := PySem.W.hideAll h (trk h H)
theorem hidT_size (h : Heap) (H : Hp) : (hidT h H).objs.size = h.objs.size := PySem.W.hideAll_size _ _
theorem hidT_get {h : Heap} {H : Hp} {b : Addr} {o : Obj} (e : h.get? b = some o) (n : H b = none) : (hidT h H).get? b = some o :=
 PySem.W.hideAll_get _ e fun hm => by
   have q : (H b).isSome = true := (List.mem_filter.mp hm).2
   rw [n] at q; simp at q
theorem of_hidT {h : Heap} {H : Hp} {b : Addr} {o : Obj} (e : (hidT h H).get? b = some o) : h.get? b = some o /\ H b = none := by
 have e' : h.get? b = some o := PySem.W.of_hideAll (trk h H) e
 refine ⟨e', ?_⟩
 cases q : H b with
 | none => rfl
 | some x =>
   have hm : b ∈ trk h H := List.mem_filter.mpr ⟨List.mem_range.mpr (Heap.lt_size e'), by simp [q]⟩
   have z : (hidT h H).get? b = none := PySem.W.hideAll_none (trk h H) hm
   rw [z] at e; cases e
def allNews (g h : Heap) (L : Addr) : List (Addr × Obj) := (List.range h.objs.size).filterMap fun a => if a = L ∨ (g.get? a).isSome = true then none else (h.get? a).map fun o => (a, o)
def rest (g h : Heap) (L d : Addr) : List (Addr × Obj) := (allNews g h L).filter fun p => decide (p.1 ≠ d)
end L2
namespace L2
open PySem PySem.Spec PyProof.Rows
structure Mod (K : PySem.W.Frag) (mg : Str -> Option Value) (base : Heap) : Prop where
 kin : K.In base
 glob : base.Ns mainGlobals mg
 blt : ∃ mb, base.Ns builtinsNs mb /\ ∀ x : Str, x ≠ "__name__" -> mb x = bootBuiltins x
 nolimit : base.NoLimit
structure Cx where
 prog : Program
 w : World
 K : PySem.W.Frag
 mg : Str -> Option Value
 base : Heap
 A : Around
 N : List Str
 s₀ : Shared
 H₀ : Hp
 env : Env
 outer : List Env
 stack : List Env
 ex : List Addr
 fn : Str -> Bool
 calm : Bool
 pn : List (Addr × Obj)
 xe : Value -> Shared -> Prop
def frs (l : List Env) : List Addr := l.filterMap (·.frame)
abbrev Cx.fs (X : Cx) : List Addr := frs X.outer
def Vis (sc : Scope) (x : Str) : Prop := sc.names.lookup x = some .local ∨ sc.names.lookup x = some .cell ∨ sc.names.lookup x = some .free
def Loc (sc : Scope) (x : Str) : Prop := sc.names.lookup x = some .local ∨ sc.names.lookup x = some .cell
def Look (env : Env) (h : Heap) (m : Str -> Option Value) (x : Str) (u : Value) : Prop :=
 (env.kindOf x = some .local /\ m x = some u) ∨ ((env.kindOf x = some .cell ∨ env.kindOf x = some .free) /\ ∃ c, env.cells.lookup x = some c /\ h.IsCell c (some u))
structure Cx.Ok (X : Cx) : Prop where
 mod : Mod X.K X.mg X.base
 kind : X.env.scope.kind = .function
 glob : X.env.globals = mainGlobals
 blt : X.env.builtins = builtinsNs
 above : X.s₀.heap.objs.size <= X.env.locals
 inj : ∀ x y c, X.env.cells.lookup x = some c -> X.env.cells.lookup y = some c -> x = y
 has : ∀ x, (X.env.kindOf x = some .cell ∨ X.env.kindOf x = some .free) -> ∃ c, X.env.cells.lookup x = some c
 cab : ∀ x c, X.fn x = true -> X.env.cells.lookup x = some c -> X.s₀.heap.objs.size <= c
 hd : X.calm = true -> X.A.handled = none
 frames : X.A.frames = some X.stack
 stk : X.stack = X.outer ∨ (X.stack = X.env :: X.outer /\ X.env.frame = some X.env.locals)
 exf : ∀ b ∈ X.ex, b ≠ X.env.locals /\ ∀ x c, X.env.cells.lookup x = some c -> c ≠ b
 bs : ∀ b o, X.base.get? b = some o -> X.s₀.heap.get? b = some o /\ X.H₀ b = none
 bsz : X.base.objs.size <= X.s₀.heap.objs.size
 noex : ∀ b o, X.base.get? b = some o -> b ∉ X.ex
 exfs : ∀ b ∈ X.ex, b ∉ X.fs
 funs : X.s₀.heap.FunFrames X.base X.outer
 frf : ∀ b ∈ X.fs, X.H₀ b = none
structure Inv (X : Cx) (pins : List (Addr × Obj)) (σ : List (Option V)) (H : Hp) (s : Shared) : Prop where
 ok : X.Ok
 os : s.os = X.s₀.os
 bare : AllBare s.gens
 base : Un X.fs X.ex X.H₀ H X.s₀.heap s.heap
 loc : ∃ m, s.heap.Ns X.env.locals m /\ ∀ (i : Nat) (x : Str) (v : V), X.N[i]? = some x -> σ[i]? = some (some v) -> Vis X.env.scope x -> ∃ u, RelV v u /\ Look X.env s.heap m x u
 cell : ∀ x c, X.env.cells.lookup x = some c -> ∃ v, s.heap.IsCell c v
 free : H X.env.locals = none
 freeC : ∀ x c, X.env.cells.lookup x = some c -> H c = none
 pin : ∀ p ∈ X.pn ++ pins, s.heap.get? p.1 = some p.2 /\ H p.1 = none /\ p.1 ≠ X.env.locals /\ p.1 ∉ X.fs /\ ∀ v, p.2.data ≠ .cell v
 hok : HOk X.prog X.w H s.heap
 len : σ.length = X.N.length
section
variable {X : Cx} {pins : List (Addr × Obj)} {σ : List (Option V)} {H H' : Hp} {s : Shared} {h' : Heap}
theorem Cx.Ok.nofr (ok : X.Ok) {b : Addr} {o : Obj} (e : X.base.get? b = some o) : b ∉ X.fs := fun hb => by
 have := (ok.funs.mem hb).1
 rw [e] at this; cases this
theorem Inv.bs (I : Inv X pins σ H s) : ∀ b o, X.base.get? b = some o -> s.heap.get? b = some o /\ H b = none := fun b o e =>
 ⟨I.base.keep b o (I.ok.bs b o e).1 (I.ok.bs b o e).2 (I.ok.nofr e) (I.ok.noex b o e), I.base.free b o (I.ok.bs b o e).1 (I.ok.bs b o e).2 (I.ok.noex b o e)⟩
theorem Inv.bk (I : Inv X pins σ H s) : ∀ b o, X.base.get? b = some o -> s.heap.get? b = some o := fun b o e => (I.bs b o e).1
theorem Inv.mod (I : Inv X pins σ H s) : Mod X.K X.mg X.base := I.ok.mod
theorem Inv.kIn (I : Inv X pins σ H s) : X.K.In s.heap := I.ok.mod.kin.keeps I.bk
theorem Inv.lt (I : Inv X pins σ H s) : X.env.locals < s.heap.objs.size := let ⟨_, hn, _⟩ := I.loc; hn.lt
theorem Inv.sz (I : Inv X pins σ H s) : X.s₀.heap.objs.size <= s.heap.objs.size := Nat.le_trans I.ok.above (Nat.le_of_lt I.lt)
theorem Inv.nofs (I : Inv X pins σ H s) {a : Addr} (h : s.heap.objs.size <= a) : a ∉ X.fs := fun hb => by
 obtain ⟨_, o, ho, _⟩ := I.ok.funs.mem hb
 exact absurd (Nat.lt_of_lt_of_le (Heap.lt_size ho) (Nat.le_trans I.sz h)) (Nat.lt_irrefl _)
theorem Inv.cne (I : Inv X pins σ H s) : ∀ x c, X.env.cells.lookup x = some c -> c ≠ X.env.locals := fun x c e z => by
 obtain ⟨v, o, ho, hd⟩ := I.cell x c e
 obtain ⟨m, ⟨o', es, ep, ho', hd', _⟩, _⟩ := I.loc
 rw [z, ho'] at ho; cases ho; rw [hd'] at hd; cases hd
theorem Inv.funs (I : Inv X pins σ H s) : s.heap.FunFrames X.base X.outer := by
 have all : ∀ (l : List Env), (∀ b ∈ frs l, b ∈ X.fs) -> X.s₀.heap.FunFrames X.base l -> s.heap.FunFrames X.base l := by
   intro l
   induction l with
   | nil => intro _ _; trivial
   | cons env r ih =>
     intro hs hl
     obtain ⟨hk, ⟨L, o, hf, hn, ho, hd⟩, hr⟩ := hl
     have hL : L ∈ X.fs := hs L (by unfold frs; rw [List.filterMap_cons, hf]; exact List.mem_cons_self)
     obtain ⟨sl, e⟩ := I.base.slot L o ho (I.ok.frf L hL) hL fun z => I.ok.exfs L z hL
     exact ⟨hk, ⟨L, _, hf, hn, e, hd⟩, ih (fun b hb => hs b (by unfold frs; rw [List.filterMap_cons, hf]; exact List.mem_cons_of_mem _ hb)) hr⟩
 exact all X.outer (fun _ hb => hb) I.ok.funs
theorem Inv.stack (I : Inv X pins σ H s) : s.heap.FunFrames X.base X.stack := by
 rcases I.ok.stk with e | ⟨e, hf⟩
 . rw [e]; exact I.funs
 . rw [e]
   obtain ⟨m, hn, _⟩ := I.loc
   refine .cons (by rw [I.ok.kind]; decide) hf hn ?_ I.funs
   exact Heap.get?_none_of_le (Nat.le_trans I.ok.bsz I.ok.above)
theorem Inv.stkSub (I : Inv X pins σ H s) : ∀ b ∈ frs X.stack, b ∈ X.env.locals :: X.fs := fun b hb => by
 rcases I.ok.stk with e | ⟨e, hf⟩
 . rw [e] at hb; exact List.mem_cons_of_mem _ hb
 . rw [e] at hb
   unfold frs at hb
   rw [List.filterMap_cons, hf] at hb
   exact hb
theorem Inv.stkFree (I : Inv X pins σ H s) : ∀ b ∈ frs X.stack, H b = none := fun b hb => by
 rcases List.mem_cons.mp (I.stkSub b hb) with e | hb
 . rw [e]; exact I.free
 . obtain ⟨_, o, ho, _⟩ := I.ok.funs.mem hb
   exact I.base.free b o ho (I.ok.frf b hb) fun z => I.ok.exfs b z hb
theorem Inv.step {g' : Array GenState} {t' : Nat} {d' : Drawn} {ch : List Addr} (I : Inv X pins σ H s)
   (hch : ∀ b ∈ ch, (b ∈ X.ex ∨ X.s₀.heap.objs.size <= b) /\ b ≠ X.env.locals /\ (∀ x c, X.env.cells.lookup x = some c -> c ≠ b) /\ ∀ p ∈ X.pn ++ pins, p.1 ≠ b)
   (keep : ∀ b o, b ≠ X.env.locals -> b ∉ X.fs -> b ∉ ch -> s.heap.get? b = some o -> H b = none -> h'.get? b = some o)
   (slot : ∀ b o, b ≠ X.env.locals -> b ∈ X.fs -> b ∉ ch -> s.heap.get? b = some o -> H b = none -> ∃ sl, h'.get? b = some { o with slots := sl }) (free : ∀ b o, b ∉ ch -> s.heap.get? b = some o -> H b = none -> H' b = none)
   (there : ∀ b o, b ∉ ch -> s.heap.get? b = some o -> ∃ o', h'.get? b = some o')
   (tups : ∀ b xs, H b = some (.tup xs) -> H' b = some (.tup xs)) (frzs : ∀ b o u, H b = some (.frz o u) -> H' b = some (.frz o u)) (tbls : ∀ b ps, H b = some (.tbl ps) -> ∃ more, H' b = some (.tbl (ps ++ more)))
   (ns : ∀ m, s.heap.Ns X.env.locals m -> h'.Ns X.env.locals m) (hok : HOk X.prog X.w H' h') (hg : AllBare g') :
   Inv X pins σ H' { s with heap := h', gens := g', drawn := d', toks := t' } := by
 have neL : ∀ b o, X.s₀.heap.get? b = some o -> b ≠ X.env.locals := fun b o e => Nat.ne_of_lt (Nat.lt_of_lt_of_le (Heap.lt_size e) I.ok.above)
 have neC : ∀ b o, X.s₀.heap.get? b = some o -> b ∉ X.ex -> b ∉ ch := fun b o e hx hb => by
   rcases (hch b hb).1 with z | z
   . exact hx z
   . exact absurd (Nat.lt_of_lt_of_le (Heap.lt_size e) z) (Nat.lt_irrefl _)
 have cellK : ∀ x c, X.env.cells.lookup x = some c -> ∀ v, s.heap.IsCell c v -> h'.IsCell c v := fun x c e v ⟨o, ho, hd⟩ => by
   have nch : c ∉ ch := fun z => (hch c z).2.2.1 x c e rfl
   by_cases hc : c ∈ X.fs
   . obtain ⟨sl, q⟩ := slot c o (I.cne x c e) hc nch ho (I.freeC x c e)
     exact ⟨_, q, hd⟩
   . exact ⟨o, keep c o (I.cne x c e) hc nch ho (I.freeC x c e), hd⟩
 refine ⟨I.ok, I.os, hg, ⟨fun b o e n hb hx => ?_, fun b o e n hb hx => ?_, fun b o e n hx => ?_, fun b o e hx => ?_, fun b xs e => tups b xs (I.base.tups b xs e), fun b o xs e => frzs b o xs (I.base.frzs b o xs e), fun b ps e => ?_⟩, ?_, fun x c e => ?_, ?_, fun x c e => ?_, fun p hp => ?_, hok, I.len⟩
 . exact keep b o (neL b o e) hb (neC b o e hx) (I.base.keep b o e n hb hx) (I.base.free b o e n hx)
 . obtain ⟨sl, e1⟩ := I.base.slot b o e n hb hx
   obtain ⟨sl', e2⟩ := slot b _ (neL b o e) hb (neC b o e hx) e1 (I.base.free b o e n hx)
   exact ⟨sl', e2⟩
 . obtain ⟨o', e1⟩ := I.base.there b o e hx
   exact free b o' (neC b o e hx) e1 (I.base.free b o e n hx)
 . obtain ⟨o', e1⟩ := I.base.there b o e hx
   exact there b o' (neC b o e hx) e1
 . obtain ⟨m1, e1⟩ := I.base.tbls b ps e
   obtain ⟨m2, e2⟩ := tbls b _ e1
   exact ⟨m1 ++ m2, by rw [e2, Array.append_assoc]⟩
 . obtain ⟨m, hn, hl⟩ := I.loc
   refine ⟨m, ns m hn, fun i x v e1 e2 e3 => ?_⟩
   obtain ⟨u, r, l⟩ := hl i x v e1 e2 e3
   refine ⟨u, r, ?_⟩
   rcases l with l | ⟨k, c, e, z⟩
   . exact .inl l
   . exact .inr ⟨k, c, e, cellK x c e _ z⟩
 . obtain ⟨v, z⟩ := I.cell x c e
   exact ⟨v, cellK x c e v z⟩
 . obtain ⟨m, ⟨o, _, _, ho, _⟩, _⟩ := I.loc
   exact free _ o (fun z => (hch _ z).2.1 rfl) ho I.free
 . obtain ⟨v, o, ho, hd⟩ := I.cell x c e
   exact free c o (fun z => (hch c z).2.2.1 x c e rfl) ho (I.freeC x c e)
 . obtain ⟨e, n, ne, nf, d⟩ := I.pin p hp
   have nch : p.1 ∉ ch := fun z => (hch p.1 z).2.2.2 p hp rfl
   exact ⟨keep p.1 p.2 ne nf nch e n, free p.1 p.2 nch e n, ne, nf, d⟩
theorem Inv.un {t' : Nat} (I : Inv X pins σ H s) (u : Un X.fs [] H H' s.heap h') (hok : HOk X.prog X.w H' h') : Inv X pins σ H' { s with heap := h', toks := t' } := by
 obtain ⟨m, ⟨o, es, ep, ho, r⟩, _⟩ := id I.loc
 obtain ⟨sl, hL⟩ := u.any ho I.free (by simp)
 exact I.step (g' := s.gens) (d' := s.drawn) (ch := []) (fun _ z => nomatch z) (fun b o _ hb _ e n => u.keep b o e n hb (by simp)) (fun b o _ hb _ e n => u.slot b o e n hb (by simp)) (fun b o _ e n => u.free b o e n (by simp)) (fun b o _ e => u.there b o e (by simp)) u.tups u.frzs u.tbls (fun m' hm => by
   obtain ⟨o', es', ep', ho', r'⟩ := hm
   rw [ho] at ho'; cases ho'
   exact ⟨_, es', ep', hL, r'⟩) hok I.bare
theorem Inv.call {g' : Array GenState} {t' : Nat} {d' : Drawn} {ch : List Addr} (I : Inv X pins σ H s) (u : Un (frs X.stack) ch H H' s.heap h') (hok : HOk X.prog X.w H' h') (hg : AllBare g')
   (hch : ∀ b ∈ ch, (b ∈ X.ex ∨ X.s₀.heap.objs.size <= b) /\ b ≠ X.env.locals /\ (∀ x c, X.env.cells.lookup x = some c -> c ≠ b) /\ ∀ p ∈ X.pn ++ pins, p.1 ≠ b) :
   Inv X pins σ H' { s with heap := h', gens := g', drawn := d', toks := t' } := by
 obtain ⟨m, ⟨o, es, ep, ho, r⟩, _⟩ := id I.loc
 obtain ⟨sl, hL⟩ := u.any ho I.free fun z => (hch _ z).2.1 rfl
 exact I.step (ch := ch) hch (fun b o hL hb hc e n => u.keep b o e n (fun z => (List.mem_cons.mp (I.stkSub b z)).elim hL hb) hc) (fun b o _ _ hc e n => u.any e n hc) (fun b o hc e n => u.free b o e n hc) (fun b o hc e => u.there b o e hc) u.tups u.frzs u.tbls (fun m' hm => by
   obtain ⟨o', es', ep', ho', r'⟩ := hm
   rw [ho] at ho'; cases ho'
   exact ⟨_, es', ep', hL, r'⟩) hok hg
theorem Inv.turned {t' : Nat} {it : Addr} (I : Inv X pins σ H s) (k : ∀ b o, b ≠ it -> s.heap.get? b = some o -> h'.get? b = some o) (hn : H it = none) (hL : it ≠ X.env.locals)
   (h1 : it ∈ X.ex ∨ X.s₀.heap.objs.size <= it) (h2 : ∀ x c, X.env.cells.lookup x = some c -> c ≠ it) (h3 : ∀ p ∈ X.pn ++ pins, p.1 ≠ it) : Inv X pins σ H { s with heap := h', toks := t' } := by
 have nit : ∀ b u, H b = some u -> b ≠ it := fun b u e z => by rw [z, hn] at e; cases e
 refine I.step (g' := s.gens) (d' := s.drawn) (ch := [it]) (fun b hb => ?_) (fun b o _ _ hc e _ => k b o (fun z => hc (by simp [z])) e) (fun b o _ _ hc e _ => ⟨o.slots, k b o (fun z => hc (by simp [z])) e⟩) (fun _ _ _ _ n => n)
   (fun b o hc e => ⟨o, k b o (fun z => hc (by simp [z])) e⟩) (fun _ _ e => e) (fun _ _ _ e => e) (fun b ps e => ⟨#[], by rw [e]; simp⟩) (fun m hm => ?_) (fun b u e => ?_) I.bare
 . have e : b = it := by simpa using hb
   subst e
   exact ⟨h1, hL, h2, h3⟩
 . obtain ⟨o, es, ep, ho, r⟩ := hm
   exact ⟨o, es, ep, k _ o (Ne.symm hL) ho, r⟩
 . refine (I.hok b u e).stay (fun c v hc q => k c v ?_ q) (fun _ q => q) fun _ _ q => q
   rcases hc with z | z
   . rw [z]; exact nit b u e
   . exact nit c _ z
theorem Inv.tok (I : Inv X pins σ H s) (t : Nat) : Inv X pins σ H { s with toks := t } := I.un (h' := s.heap) (t' := t) Un.refl I.hok
theorem Inv.kept {t' : Nat} (I : Inv X pins σ H s) (k : ∀ b u, s.heap.get? b = some u -> h'.get? b = some u) : Inv X pins σ H { s with heap := h', toks := t' } := I.un (Un.kept k) (I.hok.kept k)
theorem Inv.laid {a : Addr} {o : HO} {t' : Nat} (I : Inv X pins σ H s) (k : ∀ b u, s.heap.get? b = some u -> h'.get? b = some u) (hp : s.heap.objs.size <= a) (new : ObjOk X.prog X.w (upd H a o) h' a o) :
   Inv X pins σ (upd H a o) { s with heap := h', toks := t' } := I.un (Un.laid k hp (I.hok.fresh hp)) (I.hok.laid k hp new)
theorem Inv.write {x e : Addr} {o : HO} {t' : Nat} (I : Inv X pins σ H s) (mu : Mut (H x)) (he : e = x ∨ H e = some (.own x)) (k : ∀ b u, b ≠ e -> s.heap.get? b = some u -> h'.get? b = some u) (heo : ∃ u, h'.get? e = some u)
   (new : ObjOk X.prog X.w (upd H x o) h' x o) : Inv X pins σ (upd H x o) { s with heap := h', toks := t' } := I.un (Un.write mu he k heo) (I.hok.write mu he k heo new)
theorem Inv.pins_of {pins' : List (Addr × Obj)} (I : Inv X pins σ H s) (h : ∀ p ∈ pins', s.heap.get? p.1 = some p.2 /\ H p.1 = none /\ p.1 ≠ X.env.locals /\ p.1 ∉ X.fs /\ ∀ v, p.2.data ≠ .cell v) : Inv X pins' σ H s :=
 ⟨I.ok, I.os, I.bare, I.base, I.loc, I.cell, I.free, I.freeC, fun p hp => (List.mem_append.mp hp).elim (fun z => I.pin p (List.mem_append_left _ z)) (h p), I.hok, I.len⟩
theorem nodup_ix {N : List Str} (hN : N.Nodup) {i j : Nat} {x : Str} (a : N[i]? = some x) (b : N[j]? = some x) : i = j := by
 obtain ⟨h1, e1⟩ := List.getElem?_eq_some_iff.mp a
 obtain ⟨h2, e2⟩ := List.getElem?_eq_some_iff.mp b
 exact (List.getElem_inj hN).mp (e1.trans e2.symm)
theorem store_ok2 {M : Model} {A : Around} {E : Value -> Shared -> Prop} {i : Nat} {x : Str} {v : V} {u : Value} {Q : Unit -> Shared -> Prop} (I : Inv X pins σ H s) (hN : X.N.Nodup) (hi : X.N[i]? = some x) (hx : Loc X.env.scope x) (r : RelV v u)
   (h : ∀ s', Inv X pins (σ.set i (some v)) H s' -> (∃ a, Heap.SameBut a s.heap s'.heap /\ (a = X.env.locals ∨ X.env.cells.lookup x = some a)) -> Q () s') (hf : X.fn x = true ∨ X.env.scope.names.lookup x = some .local := by first | exact .inl rfl | exact .inr rfl | assumption) : wpAny M A (storeName X.env x u) Q E s := by
 obtain ⟨m, hn, hl⟩ := id I.loc
 have hcls : (X.env.scope.kind == .class || (X.env.scope.kind == .module && X.env.locals != X.env.globals)) = false := by rw [I.ok.kind]; rfl
 have hiσ : i < σ.length := by rw [I.len]; exact (List.getElem?_eq_some_iff.mp hi).1
 have cne := I.cne
 have tracked : ∀ {a : Addr} {h' : Heap}, (∃ o, s.heap.get? a = some o /\ H a = none) -> Heap.SameBut a s.heap h' -> HOk X.prog X.w H h' := fun {a h'} ha hs b ob e => by
   obtain ⟨_, _, hfree⟩ := ha
   refine (I.hok b ob e).stay (fun c w' hc q => (hs.2 c ?_).trans q) (fun _ q => q) fun _ _ q => q
   rintro rfl
   rcases hc with rfl | hc
   . rw [hfree] at e; cases e
   . rw [hfree] at hc; cases hc
 rcases hx with hk | hk
 . refine wpAny_storeName_local hk hn (fun h' hn' hs => ?_) hcls
   obtain ⟨oL, _, _, hoL, _⟩ := id hn
   refine h _ ⟨I.ok, I.os, I.bare, ⟨fun b o e n hb hx => ?_, fun b o e n hb hx => ?_, I.base.free, fun b o e hx => ?_, I.base.tups, I.base.frzs, I.base.tbls⟩, ⟨_, hn', fun j y v' e1 e2 e3 => ?_⟩, fun y c e => ?_, I.free, I.freeC, fun p hp => ?_, tracked ⟨oL, hoL, I.free⟩ hs, by simpa using I.len⟩ ⟨_, hs, .inl rfl⟩
   . exact (hs.2 b (Nat.ne_of_lt (Nat.lt_of_lt_of_le (Heap.lt_size e) I.ok.above))).trans (I.base.keep b o e n hb hx)
   . obtain ⟨sl, e1⟩ := I.base.slot b o e n hb hx
     exact ⟨sl, (hs.2 b (Nat.ne_of_lt (Nat.lt_of_lt_of_le (Heap.lt_size e) I.ok.above))).trans e1⟩
   . obtain ⟨o', e1⟩ := I.base.there b o e hx
     exact ⟨o', (hs.2 b (Nat.ne_of_lt (Nat.lt_of_lt_of_le (Heap.lt_size e) I.ok.above))).trans e1⟩
   . by_cases hj : j = i
     . subst hj
       rw [hi] at e1; cases e1
       rw [List.getElem?_set_self hiσ] at e2
       cases e2
       exact ⟨u, r, .inl ⟨hk, by simp⟩⟩
     . rw [List.getElem?_set_ne (Ne.symm hj)] at e2
       obtain ⟨u', r', q⟩ := hl j y v' e1 e2 e3
       refine ⟨u', r', ?_⟩
       rcases q with ⟨k, e⟩ | ⟨k, c, e, z⟩
       . refine .inl ⟨k, ?_⟩
         have : y ≠ x := fun e => hj (nodup_ix hN e1 (e ▸ hi))
         simp [this, e]
       . exact .inr ⟨k, c, e, z.sameBut hs (cne y c e)⟩
   . obtain ⟨w', z⟩ := I.cell y c e
     exact ⟨w', z.sameBut hs (cne y c e)⟩
   . obtain ⟨e, n, ne, nf, d⟩ := I.pin p hp
     exact ⟨(hs.2 p.1 ne).trans e, n, ne, nf, d⟩
 . have hfn : X.fn x = true := by
     rcases hf with z | z
     . exact z
     . rw [z] at hk; cases hk
   obtain ⟨c, hc⟩ := I.ok.has x (.inl hk)
   obtain ⟨w', z⟩ := I.cell x c hc
   refine wpAny_storeName_cell I.ok.kind hk hc z (fun h' hc' hs => ?_)
   obtain ⟨oc, hoc, hocd⟩ := id z
   refine h { s with heap := h' } ⟨I.ok, I.os, I.bare, ⟨fun b o e n hb hx => ?_, fun b o e n hb hx => ?_, I.base.free, fun b o e hx => ?_, I.base.tups, I.base.frzs, I.base.tbls⟩, ⟨m, hn.sameBut hs (Ne.symm (cne x c hc)), fun j y v' e1 e2 e3 => ?_⟩, fun y c' e => ?_, I.free, I.freeC, fun p hp => ?_, tracked ⟨oc, hoc, I.freeC x c hc⟩ hs, by simpa using I.len⟩ ⟨c, hs, .inr hc⟩
   . exact (hs.2 b (Nat.ne_of_lt (Nat.lt_of_lt_of_le (Heap.lt_size e) (I.ok.cab x c hfn hc)))).trans (I.base.keep b o e n hb hx)
   . obtain ⟨sl, e1⟩ := I.base.slot b o e n hb hx
     exact ⟨sl, (hs.2 b (Nat.ne_of_lt (Nat.lt_of_lt_of_le (Heap.lt_size e) (I.ok.cab x c hfn hc)))).trans e1⟩
   . obtain ⟨o', e1⟩ := I.base.there b o e hx
     exact ⟨o', (hs.2 b (Nat.ne_of_lt (Nat.lt_of_lt_of_le (Heap.lt_size e) (I.ok.cab x c hfn hc)))).trans e1⟩
   . by_cases hj : j = i
     . subst hj
       rw [hi] at e1; cases e1
       rw [List.getElem?_set_self hiσ] at e2
       cases e2
       exact ⟨u, r, .inr ⟨.inl hk, c, hc, hc'⟩⟩
     . rw [List.getElem?_set_ne (Ne.symm hj)] at e2
       obtain ⟨u', r', q⟩ := hl j y v' e1 e2 e3
       refine ⟨u', r', ?_⟩
       rcases q with q | ⟨k, c', e, z'⟩
       . exact .inl q
       . refine .inr ⟨k, c', e, z'.sameBut hs ?_⟩
         rintro rfl
         exact hj (nodup_ix hN e1 (I.ok.inj _ _ _ e hc ▸ hi))
   . by_cases hcc : c' = c
     . subst hcc; exact ⟨_, hc'⟩
     . obtain ⟨w2, z2⟩ := I.cell y c' e
       exact ⟨w2, z2.sameBut hs hcc⟩
   . obtain ⟨e, n, ne, nf, d⟩ := I.pin p hp
     refine ⟨(hs.2 p.1 ?_).trans e, n, ne, nf, d⟩
     intro q
     rw [q, hoc] at e
     have q' : oc = p.2 := Option.some.inj e
     exact d w' (by rw [← q']; exact hocd)
theorem store_ok {M : Model} {A : Around} {E : Value -> Shared -> Prop} {i : Nat} {x : Str} {v : V} {u : Value} {Q : Unit -> Shared -> Prop} (I : Inv X pins σ H s) (hN : X.N.Nodup) (hi : X.N[i]? = some x) (hx : Loc X.env.scope x) (r : RelV v u)
   (h : ∀ s', Inv X pins (σ.set i (some v)) H s' -> Q () s') (hf : X.fn x = true ∨ X.env.scope.names.lookup x = some .local := by first | exact .inl rfl | exact .inr rfl | assumption) : wpAny M A (storeName X.env x u) Q E s :=
 store_ok2 I hN hi hx r (fun s' I' _ => h s' I') hf
theorem Inv.call' {s' : Shared} {ch : List Addr} (I : Inv X pins σ H s) (ho : s'.os = s.os) (u : Un (frs X.stack) ch H H' s.heap s'.heap) (hok : HOk X.prog X.w H' s'.heap) (hg : AllBare s'.gens)
   (hch : ∀ b ∈ ch, (b ∈ X.ex ∨ X.s₀.heap.objs.size <= b) /\ b ≠ X.env.locals /\ (∀ x c, X.env.cells.lookup x = some c -> c ≠ b) /\ ∀ p ∈ X.pn ++ pins, p.1 ≠ b) : Inv X pins σ H' s' := by
 obtain ⟨h', g', d', t', o'⟩ := s'
 have e : o' = s.os := ho
 subst e
 exact I.call (g' := g') (t' := t') (d' := d') u hok hg hch
end
abbrev XK := Value -> Option Addr -> Hp -> Prop
abbrev St := List (Option V)
abbrev VK := V -> Hp -> Prop
abbrev TE := St -> Hp -> VK -> Prop
abbrev TT := St -> Hp -> (Bool -> Hp -> Prop) -> Prop
abbrev TA := St -> Hp -> (List V -> Hp -> Prop) -> Prop
structure Ends where
 nx : St -> Hp -> Prop
 rt : VK
 bk : St -> Hp -> Prop := fun _ _ => False
 ct : St -> Hp -> Prop := fun _ _ => False
abbrev TS := Ends -> St -> Hp -> Prop
def EP (X : Cx) (pins : List (Addr × Obj)) (σ : St) (Q : VK) (u : Value) (s' : Shared) : Prop := ∃ v H', Inv X pins σ H' s' /\ RelV v u /\ Q v H'
def TP (X : Cx) (pins : List (Addr × Obj)) (σ : St) (Q : Bool -> Hp -> Prop) (b : Bool) (s' : Shared) : Prop := ∃ H', Inv X pins σ H' s' /\ Q b H'
def AP (X : Cx) (pins : List (Addr × Obj)) (σ : St) (Q : List V -> Hp -> Prop) (us : List Value) (s' : Shared) : Prop := ∃ vs H', Inv X pins σ H' s' /\ Vals vs us /\ Q vs H'
def SP (X : Cx) (pins : List (Addr × Obj)) (D : Ends) (f : Flow) (s' : Shared) : Prop :=
 match f with
 | .next => ∃ σ' H', Inv X pins σ' H' s' /\ D.nx σ' H'
 | .brk => ∃ σ' H', Inv X pins σ' H' s' /\ D.bk σ' H'
 | .cont => ∃ σ' H', Inv X pins σ' H' s' /\ D.ct σ' H'
 | .ret u => ∃ v σ' H', Inv X pins σ' H' s' /\ RelV v u /\ D.rt v H'
def PE (X : Cx) (e : Expr) (t : TE) : Prop :=
 ∀ (pins : List (Addr × Obj)) (s : Shared) (σ : St) (H : Hp) (Q : VK), Inv X pins σ H s -> t σ H Q -> wpAny (model X.prog X.w) X.A (eval e X.env) (EP X pins σ Q) X.xe s
@[irreducible] def JE (X : Cx) (e : Expr) (t : TE) : Prop := PE X e t
theorem JE.of {X : Cx} {e : Expr} {t : TE} (h : PE X e t) : JE X e t := by unfold JE; exact h
theorem JE.to {X : Cx} {e : Expr} {t : TE} (h : JE X e t) : PE X e t := by unfold JE at h; exact h
def PT (X : Cx) (e : Expr) (t : TT) : Prop :=
 ∀ (pins : List (Addr × Obj)) (s : Shared) (σ : St) (H : Hp) (Q : Bool -> Hp -> Prop), Inv X pins σ H s -> t σ H Q -> wpAny (model X.prog X.w) X.A (isTrue e X.env (eval e X.env)) (TP X pins σ Q) X.xe s
@[irreducible] def JT (X : Cx) (e : Expr) (t : TT) : Prop := PT X e t
theorem JT.of {X : Cx} {e : Expr} {t : TT} (h : PT X e t) : JT X e t := by unfold JT; exact h
theorem JT.to {X : Cx} {e : Expr} {t : TT} (h : JT X e t) : PT X e t := by unfold JT at h; exact h
def PW (X : Cx) (e : Expr) (t : TT) : Prop :=
 ∀ (whole : Sem Value) (pins : List (Addr × Obj)) (s : Shared) (σ : St) (H : Hp) (Q : Bool -> Hp -> Prop), Inv X pins σ H s -> t σ H Q -> wpAny (model X.prog X.w) X.A (isTrue e X.env whole) (TP X pins σ Q) X.xe s
theorem PW.pt {X : Cx} {e : Expr} {t : TT} (h : PW X e t) : PT X e t := h _
@[irreducible] def JW (X : Cx) (e : Expr) (t : TT) : Prop := PW X e t
theorem JW.of {X : Cx} {e : Expr} {t : TT} (h : PW X e t) : JW X e t := by unfold JW; exact h
theorem JW.to {X : Cx} {e : Expr} {t : TT} (h : JW X e t) : PW X e t := by unfold JW at h; exact h
theorem JW.pt {X : Cx} {e : Expr} {t : TT} (h : JW X e t) : JT X e t := .of h.to.pt
def PA (X : Cx) (es : List Expr) (t : TA) : Prop :=
 ∀ (pos : Pos) (pins : List (Addr × Obj)) (s : Shared) (σ : St) (H : Hp) (Q : List V -> Hp -> Prop), Inv X pins σ H s -> t σ H Q -> wpAny (model X.prog X.w) X.A (spliced (backTo pos (starEach es X.env))) (AP X pins σ Q) X.xe s
@[irreducible] def JA (X : Cx) (es : List Expr) (t : TA) : Prop := PA X es t
theorem JA.of {X : Cx} {es : List Expr} {t : TA} (h : PA X es t) : JA X es t := by unfold JA; exact h
theorem JA.to {X : Cx} {es : List Expr} {t : TA} (h : JA X es t) : PA X es t := by unfold JA at h; exact h
def PS (X : Cx) (st : Stmt) (t : TS) : Prop :=
 ∀ (pins : List (Addr × Obj)) (s : Shared) (σ : St) (H : Hp) (D : Ends), Inv X pins σ H s -> t D σ H -> wpAny (model X.prog X.w) X.A (exec st X.env) (SP X pins D) X.xe s
@[irreducible] def JS (X : Cx) (st : Stmt) (t : TS) : Prop := PS X st t
theorem JS.of {X : Cx} {st : Stmt} {t : TS} (h : PS X st t) : JS X st t := by unfold JS; exact h
theorem JS.to {X : Cx} {st : Stmt} {t : TS} (h : JS X st t) : PS X st t := by unfold JS at h; exact h
def PSs (X : Cx) (st : List Stmt) (t : TS) : Prop :=
 ∀ (pins : List (Addr × Obj)) (s : Shared) (σ : St) (H : Hp) (D : Ends), Inv X pins σ H s -> t D σ H -> wpAny (model X.prog X.w) X.A (execs st X.env) (SP X pins D) X.xe s
@[irreducible] def JSs (X : Cx) (st : List Stmt) (t : TS) : Prop := PSs X st t
theorem JSs.of {X : Cx} {st : List Stmt} {t : TS} (h : PSs X st t) : JSs X st t := by unfold JSs; exact h
theorem JSs.to {X : Cx} {st : List Stmt} {t : TS} (h : JSs X st t) : PSs X st t := by unfold JSs at h; exact h
theorem thn {α : Type} {t : Sem α} {Q Q' : α -> Shared -> Prop} {M : Model} {A : Around} {E : Value -> Shared -> Prop} {s : Shared} (h : wpAny M A t Q E s) (hQ : ∀ a s, Q a s -> Q' a s) : wpAny M A t Q' E s := wpAny_mono h hQ fun _ _ x => x
end L2
namespace L2
open PySem PySem.Spec PyProof.Rows
section
variable {X : Cx}
def tVar (i : Nat) : TE := fun σ H Q => ∃ v, σ[i]? = some (some v) /\ Q v H
def tC (v : V) : TE := fun _ H Q => Q v H
theorem pe_var {i : Nat} {x : Str} {pos : Pos} (hN : X.N[i]? = some x) (hv : Vis X.env.scope x) (hd : (x == ("__debug__" : Str)) = false := by decide) (hcd : (x == ("__classdict__" : Str)) = false := by decide) : PE X (.Name x pos) (tVar i) := by
 intro pins s σ H Q I h
 obtain ⟨v, e, h⟩ := h
 obtain ⟨m, hn, hl⟩ := I.loc
 obtain ⟨u, r, l⟩ := hl i x v hN e hv
 have fin : EP X pins σ Q u s := ⟨v, H, I, r, h⟩
 rcases l with ⟨hk, hm⟩ | ⟨hk, c, hc, hcell⟩
 . exact wpAny_Name (wpAny_loadName_local I.ok.kind hk hn hm fin) hd
 . rcases hk with hk | hk
   . exact wpAny_Name (wpAny_loadName_cell I.ok.kind hk hc hcell fin) hd
   . exact wpAny_Name (wpAny_loadName_free I.ok.kind hk hc hcell fin hcd) hd
theorem qag {i j pos} : JE X (.Constant (.int i) j pos) (tC (.int i)) := .of (by
 exact fun _ _ _ H _ I h => wpAny_Constant_int ⟨.int i, H, I.tok _, ⟨_, rfl⟩, h⟩)
theorem qcp {b j pos} : JE X (.Constant (.bool b) j pos) (tC (.bl b)) := .of (by
 exact fun _ _ _ H _ I h => Constant_bool ⟨.bl b, H, I, rfl, h⟩)
theorem qat {x j pos} : JE X (.Constant (.str x) j pos) (tC (.str x)) := .of (by
 exact fun _ _ _ H _ I h => Calls.Constant_str ⟨.str x, H, I.tok _, ⟨_, rfl⟩, h⟩)
def Gl (X : Cx) (x : Str) : Prop := X.env.kindOf x = some .globalImplicit
theorem ld_glob {E : Value -> Shared -> Prop} {pins : List (Addr × Obj)} {s : Shared} {σ : St} {H : Hp} {x : Str} {u : Value} {pos : Pos} {Q : Value -> Shared -> Prop} (I : Inv X pins σ H s) (hg : Gl X x) (hm : X.mg x = some u) (h : Q u s)
   (hd : (x == ("__debug__" : Str)) = false := by decide) : wpAny (model X.prog X.w) X.A (eval (.Name x pos) X.env) Q E s :=
 Calls.Name_function_global I.ok.kind hg (Calls.loadGlobal_global (by rw [I.ok.glob]; exact I.mod.glob.keeps I.bk) hm h) hd
theorem ld_blt {E : Value -> Shared -> Prop} {pins : List (Addr × Obj)} {s : Shared} {σ : St} {H : Hp} {x : Str} {u : Value} {pos : Pos} {Q : Value -> Shared -> Prop} (I : Inv X pins σ H s) (hg : Gl X x) (hm : X.mg x = none) (hv : bootBuiltins x = some u) (h : Q u s)
   (hn : x ≠ "__name__" := by decide) (hd : (x == ("__debug__" : Str)) = false := by decide) : wpAny (model X.prog X.w) X.A (eval (.Name x pos) X.env) Q E s := by
 obtain ⟨mb, h1, h2⟩ := I.mod.blt
 exact Calls.Name_function_global I.ok.kind hg (Calls.loadGlobal_builtin (by rw [I.ok.glob]; exact I.mod.glob.keeps I.bk) hm (by rw [I.ok.blt]; exact h1.keeps I.bk) ((h2 x hn).trans hv) h) hd
theorem je_glob {x : Str} {v : V} {u : Value} {pos : Pos} (hg : Gl X x) (hm : X.mg x = some u) (r : RelV v u) (hd : (x == ("__debug__" : Str)) = false := by decide) : JE X (.Name x pos) (tC v) := .of (by
 exact fun _ _ _ H _ I h => ld_glob I hg hm ⟨v, H, I, r, h⟩ hd)
theorem qco {x : Str} {v : V} {u : Value} {pos : Pos} (hg : Gl X x) (hm : X.mg x = none) (hv : bootBuiltins x = some u) (r : RelV v u) (hn : x ≠ "__name__" := by decide) (hd : (x == ("__debug__" : Str)) = false := by decide) : JE X (.Name x pos) (tC v) := .of (by
 exact fun _ _ _ H _ I h => ld_blt I hg hm hv ⟨v, H, I, r, h⟩ hn hd)
variable {a b : Expr} {ta tb : TE} {pos : Pos}
def PC (X : Cx) (op : CmpOp) (a b : Expr) (t : TE) : Prop :=
 ∀ (pins : List (Addr × Obj)) (s : Shared) (σ : St) (H : Hp) (Q : VK), Inv X pins σ H s -> t σ H Q →
   wpAny (model X.prog X.w) X.A (eval a X.env) (fun v s₁ => wpAny (model X.prog X.w) X.A (eval b X.env) (fun u s₂ => wpAny (model X.prog X.w) X.A (compareOp op v u) (EP X pins σ Q) X.xe s₂) X.xe s₁) X.xe s
@[irreducible] def JC (X : Cx) (op : CmpOp) (a b : Expr) (t : TE) : Prop := PC X op a b t
theorem JC.of {X : Cx} {op : CmpOp} {a b : Expr} {t : TE} (h : PC X op a b t) : JC X op a b t := by unfold JC; exact h
theorem JC.to {X : Cx} {op : CmpOp} {a b : Expr} {t : TE} (h : JC X op a b t) : PC X op a b t := by unfold JC at h; exact h
def tB (t : TE) : TT := fun σ H Q => t σ H fun x H1 => ∃ c, x = .bl c /\ Q c H1
theorem qcs {op : CmpOp} {t : TE} (h : JC X op a b t) (h1 : behindInMarks op b = false := by first | exact nobehind _ (by decide) (by decide) | rfl) : JT X (.Compare a [op] [b] pos) (tB t) := .of (by
 have h := h.to
 intro pins s σ H Q I hw
 refine wpAny_isTrue_Compare1 (thn (h pins s σ H _ I hw) fun v s1 h1 => thn h1 fun u s2 h2 => thn h2 fun c s3 ⟨x, H1, I1, r1, q1⟩ => ?_) h1
 obtain ⟨d, rfl, q⟩ := q1
 cases r1
 exact wpAny_truthy_bool ⟨H1, I1, q⟩)
theorem qbv {e : Expr} {t : TE} (h : JE X e t) (he : ∀ whole, isTrue e X.env whole = (do let v ← whole; standAt e.pos; holding [v] (truthy v)) := by intro _; rfl) : JT X e (tB t) := .of (by
 have h := h.to
 intro pins s σ H Q I hw
 refine isTrue_plain (thn (h pins s σ H _ I hw) fun v s1 ⟨x, H1, I1, r1, q1⟩ => ?_) (he _)
 obtain ⟨d, rfl, q⟩ := q1
 cases r1
 exact wpAny_truthy_bool ⟨H1, I1, q⟩)
variable {tA tB' : TT} {rest : List Expr}
def tAnd (t u : TT) : TT := fun σ H Q => t σ H fun c H1 => if c = true then u σ H1 Q else Q false H1
def tOr (t u : TT) : TT := fun σ H Q => t σ H fun c H1 => if c = true then Q true H1 else u σ H1 Q
def tNot (t : TT) : TT := fun σ H Q => t σ H fun c H1 => Q (!c) H1
theorem qcf (ha : JT X a tA) : JW X (.BoolOp .And [a] pos) tA := .of (by
 have ha := ha.to
 intro wh pins s σ H Q I h
 refine isTrue_and (thn (ha pins s σ H Q I h) fun c s1 e => ?_)
 cases c with
 | true => exact isTrue_and_nil e
 | false => exact e)
theorem jw_or1 (ha : JT X a tA) : JW X (.BoolOp .Or [a] pos) tA := .of (by
 have ha := ha.to
 intro wh pins s σ H Q I h
 refine isTrue_or (thn (ha pins s σ H Q I h) fun c s1 e => ?_)
 cases c with
 | false => exact isTrue_or_nil e
 | true => exact e)
theorem qcr (ha : JT X a tA) (hb : JW X (.BoolOp .And (b :: rest) pos) tB') : JW X (.BoolOp .And (a :: b :: rest) pos) (tAnd tA tB') := .of (by
 have ha := ha.to
 have hb := hb.to
 intro wh pins s σ H Q I h
 refine isTrue_and (thn (ha pins s σ H _ I h) fun c s1 ⟨H1, I1, q1⟩ => ?_)
 cases c with
 | true => exact hb wh pins s1 σ H1 Q I1 q1
 | false => exact ⟨H1, I1, q1⟩)
theorem jw_or (ha : JT X a tA) (hb : JW X (.BoolOp .Or (b :: rest) pos) tB') : JW X (.BoolOp .Or (a :: b :: rest) pos) (tOr tA tB') := .of (by
 have ha := ha.to
 have hb := hb.to
 intro wh pins s σ H Q I h
 refine isTrue_or (thn (ha pins s σ H _ I h) fun c s1 ⟨H1, I1, q1⟩ => ?_)
 cases c with
 | true => exact ⟨H1, I1, q1⟩
 | false => exact hb wh pins s1 σ H1 Q I1 q1)
theorem jt_not (ha : JT X a tA) : JT X (.UnaryOp .Not a pos) (tNot tA) := .of (by
 have ha := ha.to
 intro pins s σ H Q I h
 exact isTrue_not (ha pins s σ H (fun c H1 => Q (!c) H1) I h))
def tAndV (ta tb : TE) : TE := fun σ H Q => ta σ H fun x H1 => ∃ c, x = .bl c /\ if c = true then tb σ H1 Q else Q (.bl false) H1
def tNotV (ta : TE) : TE := fun σ H Q => ta σ H fun x H1 => ∃ c, x = .bl c /\ Q (.bl (!c)) H1
theorem je_one {op} {t : TE} (h : JE X a t) : JE X (.BoolOp op [a] pos) t := .of (by
 have h := h.to
 exact fun pins s σ H Q I hw => BoolOp_one (h pins s σ H Q I hw))
theorem je_and (ha : JE X a ta) (hb : JE X (.BoolOp .And (b :: rest) pos) tb) : JE X (.BoolOp .And (a :: b :: rest) pos) (tAndV ta tb) := .of (by
 have ha := ha.to
 have hb := hb.to
 intro pins s σ H Q I h
 refine BoolOp_and (thn (ha pins s σ H _ I h) fun v s1 ⟨x, H1, I1, r1, q1⟩ => ?_)
 obtain ⟨c, rfl, q1⟩ := q1
 cases r1
 refine wpAny_truthy_bool ?_
 cases c with
 | true => exact hb pins s1 σ H1 Q I1 q1
 | false => exact ⟨.bl false, H1, I1, rfl, q1⟩)
theorem je_not (ha : JE X a ta) : JE X (.UnaryOp .Not a pos) (tNotV ta) := .of (by
 have ha := ha.to
 intro pins s σ H Q I h
 refine UnaryOp_ (thn (ha pins s σ H _ I h) fun v s1 ⟨x, H1, I1, r1, q1⟩ => ?_)
 obtain ⟨c, rfl, q1⟩ := q1
 cases r1
 exact not_of (wpAny_truthy_bool ⟨.bl (!c), H1, I1, rfl, q1⟩))
end
end L2
namespace L2
open PySem PySem.Spec PyProof.Rows
def SqL (K : PySem.W.Frag) (H : Hp) (a : Addr) (xs : List V) : Prop :=
 Rd H a (.lst xs) ∨
   ∃ (o : Obj) (its : Array Value) (n : Nat), K.lookup a = some o /\ o.cls = .type "list" /\ o.dict = none /\ o.data = .seq its n /\ its.size <= sizeLine /\ Vals xs its.toList
def SqT (K : PySem.W.Frag) (H : Hp) (a : Addr) (xs : List V) : Prop :=
 Rd H a (.tup xs) ∨
   ∃ (o : Obj) (its : Array Value) (n : Nat), K.lookup a = some o /\ o.cls = .type "tuple" /\ o.data = .seq its n /\ its.size <= sizeLine /\ Vals xs its.toList
def absV : Value -> Option V
 | .none => some .non
 | .bool b => some (.bl b)
 | .int i _ => some (.int i)
 | .str x _ => some (.str x)
 | .bytes b _ => some (.byt b)
 | .float b _ => some (.flt b)
 | .ref a => some (.ref a)
 | .type n => some (.ty n)
 | _ => none
theorem RelV.abs {x : V} {u : Value} (r : RelV x u) : absV u = some x := by
 cases x with
 | non => cases r; rfl
 | bl _ => cases r; rfl
 | int _ => obtain ⟨t, rfl⟩ := r; rfl
 | str _ => obtain ⟨t, rfl⟩ := r; rfl
 | byt _ => obtain ⟨t, rfl⟩ := r; rfl
 | flt _ => obtain ⟨t, rfl⟩ := r; rfl
 | ref _ => cases r; rfl
 | ty _ => cases r; rfl
theorem RelV.inj {x y : V} {u : Value} (r : RelV x u) (q : RelV y u) : x = y := Option.some.inj (r.abs.symm.trans q.abs)
theorem Vals.inj : ∀ {xs ys : List V} {us : List Value}, Vals xs us -> Vals ys us -> xs = ys
 | _, _, _, .nil, .nil => rfl
 | _, _, _, .cons r t, .cons r' t' => by rw [r.inj r', Vals.inj t t']
section
variable {X : Cx} {pins : List (Addr × Obj)} {σ : St} {H : Hp} {s : Shared} {a : Addr} {xs ys : List V}
theorem SqL.of {K : PySem.W.Frag} (h : H a = some (.lst xs)) : SqL K H a xs := .inl (.inl h)
theorem SqT.of {K : PySem.W.Frag} (h : H a = some (.tup xs)) : SqT K H a xs := .inl (.inl h)
theorem Inv.list (I : Inv X pins σ H s) (h : SqL X.K H a xs) : ∃ its : List Value, Vals xs its /\ PlainL s.heap a its.toArray /\ xs.length <= sizeLine := by
 rcases h with h | ⟨o, its, n, hk, hc, hd, hs, hz, r⟩
 . obtain ⟨z, its, n, r, e⟩ := h.ok I.hok
   exact ⟨its, r, ⟨_, n, e, rfl, rfl, rfl⟩, z⟩
 . refine ⟨its.toList, r, ⟨o, n, I.kIn a o hk, hc, hd, by simpa using hs⟩, ?_⟩
   have e := r.length
   simp only [Array.length_toList] at e
   omega
theorem Inv.tuple (I : Inv X pins σ H s) (h : SqT X.K H a xs) : ∃ its : List Value, Vals xs its /\ IsTup s.heap a its.toArray /\ xs.length <= sizeLine := by
 rcases h with h | ⟨o, its, n, hk, hc, hs, hz, r⟩
 . obtain ⟨z, its, r, p⟩ := h.ok I.hok
   exact ⟨its, r, p, z⟩
 . refine ⟨its.toList, r, ⟨o, I.kIn a o hk, hc, n, by simpa using hs⟩, ?_⟩
   have e := r.length
   simp only [Array.length_toList] at e
   omega
theorem Inv.list_inj (I : Inv X pins σ H s) (h : SqL X.K H a xs) (h' : SqL X.K H a ys) : xs = ys := by
 obtain ⟨its, r, ⟨o, n, e, _, _, d⟩, _⟩ := I.list h
 obtain ⟨its', r', ⟨o', n', e', _, _, d'⟩, _⟩ := I.list h'
 rw [e] at e'; cases e'
 rw [d] at d'
 injection d' with d1 _
 have : its = its' := by simpa using congrArg Array.toList d1
 subst this
 exact r.inj r'
theorem Inv.tuple_inj (I : Inv X pins σ H s) (h : SqT X.K H a xs) (h' : SqT X.K H a ys) : xs = ys := by
 obtain ⟨its, r, ⟨o, e, _, n, d⟩, _⟩ := I.tuple h
 obtain ⟨its', r', ⟨o', e', _, n', d'⟩, _⟩ := I.tuple h'
 rw [e] at e'; cases e'
 rw [d] at d'
 injection d' with d1 _
 have : its = its' := by simpa using congrArg Array.toList d1
 subst this
 exact r.inj r'
end
abbrev Cx.wish (X : Cx) (E : Value -> Shared -> Prop) : Cx := { X with xe := E }
abbrev Cx.nox (X : Cx) : Cx := X.wish fun _ _ => False
theorem Cx.Ok.wish {X : Cx} (ok : X.Ok) (E : Value -> Shared -> Prop) : (X.wish E).Ok :=
 ⟨ok.mod, ok.kind, ok.glob, ok.blt, ok.above, ok.inj, ok.has, ok.cab, ok.hd, ok.frames, ok.stk, ok.exf, ok.bs, ok.bsz, ok.noex, ok.exfs, ok.funs, ok.frf⟩
theorem Cx.Ok.unwish {X : Cx} {E : Value -> Shared -> Prop} (ok : (X.wish E).Ok) : X.Ok :=
 ⟨ok.mod, ok.kind, ok.glob, ok.blt, ok.above, ok.inj, ok.has, ok.cab, ok.hd, ok.frames, ok.stk, ok.exf, ok.bs, ok.bsz, ok.noex, ok.exfs, ok.funs, ok.frf⟩
section
variable {X : Cx} {pins : List (Addr × Obj)} {σ : St} {H : Hp} {s : Shared} {E : Value -> Shared -> Prop}
theorem Inv.wish (I : Inv X pins σ H s) (E : Value -> Shared -> Prop) : Inv (X.wish E) pins σ H s := ⟨I.ok.wish E, I.os, I.bare, I.base, I.loc, I.cell, I.free, I.freeC, I.pin, I.hok, I.len⟩
theorem Inv.unwish (I : Inv (X.wish E) pins σ H s) : Inv X pins σ H s := ⟨I.ok.unwish, I.os, I.bare, I.base, I.loc, I.cell, I.free, I.freeC, I.pin, I.hok, I.len⟩
theorem SP.unwish {D : Ends} {f : Flow} {s' : Shared} (h : SP (X.wish E) pins D f s') : SP X pins D f s' := by
 cases f with
 | next => obtain ⟨σ', H', I, q⟩ := h; exact ⟨σ', H', I.unwish, q⟩
 | brk => obtain ⟨σ', H', I, q⟩ := h; exact ⟨σ', H', I.unwish, q⟩
 | cont => obtain ⟨σ', H', I, q⟩ := h; exact ⟨σ', H', I.unwish, q⟩
 | ret u => obtain ⟨v, σ', H', I, r, q⟩ := h; exact ⟨v, σ', H', I.unwish, r, q⟩
theorem PSs.nox {st : List Stmt} {t : TS} (h : PSs X.nox st t) : PSs X st t := fun pins s σ H D I hw =>
 wpAny_mono (h pins s σ H D (I.wish _) hw) (fun _ _ q => q.unwish) fun _ _ z => False.elim z
end
section
variable {X : Cx} {st : Stmt} {rest : List Stmt} {t u : TS} {e : Expr} {te : TE} {pos : Pos}
def tNext : TS := fun D σ H => D.nx σ H
def tSeq (t u : TS) : TS := fun D σ H => t { D with nx := u D } σ H
theorem qap  : JSs X [] tNext := .of (by
 exact fun _ _ σ H _ I h => wpAny_execs_nil ⟨σ, H, I, h⟩)
theorem qac (h1 : JS X st t) (h2 : JSs X rest u) : JSs X (st :: rest) (tSeq t u) := .of (by
 have h1 := h1.to
 have h2 := h2.to
 intro pins s σ H D I h
 refine wpAny_execs_cons (thn (h1 pins s σ H { D with nx := u D } I h) fun f s1 q => ?_)
 cases f with
 | next =>
   obtain ⟨σ', H', I', q⟩ := q
   exact h2 pins s1 σ' H' D I' q
 | ret v => exact q
 | brk => exact q
 | cont => exact q)
theorem qae (h1 : JS X st t) : JSs X [st] t := .of (by
 have h1 := h1.to
 intro pins s σ H D I h
 refine wpAny_execs_cons (thn (h1 pins s σ H D I h) fun f s1 q => ?_)
 cases f with
 | next => exact wpAny_execs_nil q
 | ret v => exact q
 | brk => exact q
 | cont => exact q)
theorem Inv.quiet {pins : List (Addr × Obj)} {σ : St} {H : Hp} {s : Shared} (I : Inv X pins σ H s) : interactive X.env = false := by simp [interactive, I.ok.kind]
def tDrop (te : TE) : TS := fun D σ H => te σ H fun _ H1 => D.nx σ H1
theorem qbp (he : JE X e te) (hs : swapsWith e none pos.line X.env = pure false := by rfl) : JS X (.Expr e pos) (tDrop te) := .of (by
 have he := he.to
 intro pins s σ H D I h
 exact wpAny_Expr_any (thn (he pins s σ H _ I h) fun v s1 ⟨x, H1, I1, r1, q1⟩ => ⟨σ, H1, I1, q1⟩) I.quiet hs)
def tRet (te : TE) : TS := fun D σ H => te σ H D.rt
theorem qal (he : JE X e te) : JS X (.Return (some e) pos) (tRet te) := .of (by
 have he := he.to
 intro pins s σ H D I h
 exact wpAny_Return_some (thn (he pins s σ H _ I h) fun v s1 ⟨x, H1, I1, r1, q1⟩ => ⟨x, σ, H1, I1, r1, q1⟩))
def tIfS (c : TT) (t u : TS) : TS := fun D σ H => c σ H fun b H1 => if b = true then t D σ H1 else u D σ H1
theorem qba {c : Expr} {a b : List Stmt} {tc : TT} (hc : JT X c tc) (ha : JSs X a t) (hb : JSs X b u) : JS X (.If c a b pos) (tIfS tc t u) := .of (by
 have hc := hc.to
 have ha := ha.to
 have hb := hb.to
 intro pins s σ H D I h
 refine wpAny_If (thn (hc pins s σ H _ I h) fun d s1 ⟨H1, I1, q1⟩ => ?_)
 cases d with
 | true => exact ha pins s1 σ H1 D I1 q1
 | false => exact hb pins s1 σ H1 D I1 q1)
def tNever : TS := fun _ _ _ => False
theorem qbb {sts : List Stmt} : JSs X sts tNever := .of (by
 exact fun _ _ _ _ _ _ h => h.elim)
end
abbrev TG := V -> St -> Hp -> (St -> Hp -> Prop) -> Prop
abbrev TGs := List V -> St -> Hp -> (St -> Hp -> Prop) -> Prop
def PG (X : Cx) (target : Expr) (t : TG) : Prop :=
 ∀ (pins : List (Addr × Obj)) (s : Shared) (σ : St) (H : Hp) (v : V) (u : Value) (Q : St -> Hp -> Prop), Inv X pins σ H s -> RelV v u -> t v σ H Q →
   wpAny (model X.prog X.w) X.A (assign target X.env u) (fun _ s' => ∃ σ' H', Inv X pins σ' H' s' /\ Q σ' H') X.xe s
@[irreducible] def JG (X : Cx) (target : Expr) (t : TG) : Prop := PG X target t
theorem JG.of {X : Cx} {target : Expr} {t : TG} (h : PG X target t) : JG X target t := by unfold JG; exact h
theorem JG.to {X : Cx} {target : Expr} {t : TG} (h : JG X target t) : PG X target t := by unfold JG at h; exact h
def PGs (X : Cx) (ts : List Expr) (t : TGs) : Prop :=
 ∀ (pins : List (Addr × Obj)) (s : Shared) (σ : St) (H : Hp) (vs : List V) (us : List Value) (Q : St -> Hp -> Prop), Inv X pins σ H s -> Vals vs us -> t vs σ H Q →
   wpAny (model X.prog X.w) X.A (assignInOrder ((assignEach ts X.env).map (·.2)) us) (fun _ s' => ∃ σ' H', Inv X pins σ' H' s' /\ Q σ' H') X.xe s
@[irreducible] def JGs (X : Cx) (ts : List Expr) (t : TGs) : Prop := PGs X ts t
theorem JGs.of {X : Cx} {ts : List Expr} {t : TGs} (h : PGs X ts t) : JGs X ts t := by unfold JGs; exact h
theorem JGs.to {X : Cx} {ts : List Expr} {t : TGs} (h : JGs X ts t) : PGs X ts t := by unfold JGs at h; exact h
abbrev TSet := V -> V -> V -> Hp -> (Hp -> Prop) -> Prop
def PSet (X : Cx) (t : TSet) : Prop :=
 ∀ (pins : List (Addr × Obj)) (s : Shared) (σ : St) (H : Hp) (o i v : V) (ov iv u : Value) (Q : Hp -> Prop), Inv X pins σ H s -> RelV o ov -> RelV i iv -> RelV v u -> t o i v H Q →
   wpAny (model X.prog X.w) X.A (setItem ov iv u) (fun _ s' => ∃ H', Inv X pins σ H' s' /\ Q H') X.xe s
abbrev TIp := V -> V -> Hp -> VK -> Prop
def PIp (X : Cx) (op : Operator) (t : TIp) : Prop :=
 ∀ (pins : List (Addr × Obj)) (s : Shared) (σ : St) (H : Hp) (x y : V) (v u : Value) (Q : VK), Inv X pins σ H s -> RelV x v -> RelV y u -> t x y H Q →
   wpAny (model X.prog X.w) X.A (inplaceOp op v u) (EP X pins σ Q) X.xe s
section
variable {X : Cx} {pos : Pos}
def gName (i : Nat) : TG := fun v σ H Q => Q (σ.set i (some v)) H
theorem qaj {i : Nat} {x : Str} (hN : X.N.Nodup) (hi : X.N[i]? = some x) (hx : Loc X.env.scope x) (hf : X.fn x = true ∨ X.env.scope.names.lookup x = some .local := by first | exact .inl rfl | exact .inr rfl | assumption) : JG X (.Name x pos) (gName i) := .of (by
 intro pins s σ H v u Q I r h
 exact wpAny_assign_Name (store_ok I hN hi hx r (fun s' I' => ⟨_, H, I', h⟩) hf))
def gNil : TGs := fun vs σ H Q => vs = [] /\ Q σ H
def gCons (t : TG) (u : TGs) : TGs := fun vs σ H Q => ∃ v r, vs = v :: r /\ t v σ H fun σ' H' => u r σ' H' Q
theorem jgs_nil  : JGs X [] gNil := .of (by
 intro pins s σ H vs us Q I r h
 obtain ⟨e, h⟩ := h
 subst e
 cases r
 exact assignInOrder_nil ⟨σ, H, I, h⟩)
theorem qbg {e : Expr} {es : List Expr} {t : TG} {u : TGs} (h1 : JG X e t) (h2 : JGs X es u) (hs : (assignEach (e :: es) X.env).map (·.2) = assign e X.env :: (assignEach es X.env).map (·.2) := by rfl) : JGs X (e :: es) (gCons t u) := .of (by
 have h1 := h1.to
 have h2 := h2.to
 intro pins s σ H vs us Q I r h
 obtain ⟨v, vr, e1, h⟩ := h
 subst e1
 cases r with
 | cons r rr =>
   rw [hs]
   refine assignInOrder_cons (thn (h1 pins s σ H _ _ _ I r h) fun _ s1 ⟨σ1, H1, I1, q1⟩ => ?_)
   exact h2 pins s1 σ1 H1 _ _ Q I1 rr q1)
def gTup (K : PySem.W.Frag) (n : Nat) (t : TGs) : TG := fun v σ H Q => ∃ a xs, v = .ref a /\ SqT K H a xs /\ xs.length = n /\ t xs σ H Q
theorem jg_tup {es : List Expr} {k : Nat} {t : TGs} {n : Nat} (hc : X.calm = true) (h : JGs X es t) (hn : (assignEach es X.env).length = n := by rfl) (hst : (assignEach es X.env).findIdx? (·.1) = none := by rfl) : JG X (.Tuple es k pos) (gTup X.K n t) := .of (by
 have h := h.to
 intro pins s σ H v u Q I r hw
 obtain ⟨a, xs, e1, hq, hl, hw⟩ := hw
 subst e1
 cases r
 obtain ⟨its, rv, ht, hz⟩ := I.tuple hq
 refine assign_Tuple_tuple (I.ok.hd hc) ht (by simp [hn, ← hl, rv.length]) hst fun h' hx => ?_
 have I1 : Inv X pins σ H { s with heap := h' } := I.kept (t' := s.toks) fun b o e => hx b o (Nat.ne_of_lt (Heap.lt_size e)) e
 exact h pins _ σ H xs _ Q I1 (by simpa using rv) hw)
def gSub (to ti : TE) (t : TSet) : TG := fun v σ H Q => to σ H fun o H1 => ti σ H1 fun i H2 => t o i v H2 fun H3 => Q σ H3
theorem pg_sub {o i : Expr} {to ti : TE} {t : TSet} (ho : PE X o to) (hi : PE X i ti) (hs : PSet X t)
   (ha : ∀ v, assign (.Subscript o i pos) X.env v = (do
     let ov ← holding [v] (eval o X.env)
     let iv ← holding [v, ov] (eval i X.env)
     standAt pos
     holding [v, ov, iv] (setItem ov iv v)
     release [v, ov, iv] []) := by intro _; rfl) : PG X (.Subscript o i pos) (gSub to ti t) := by
 intro pins s σ H v u Q I r h
 rw [ha]
 refine wpAny_bind (wpAny_holding (thn (ho pins s σ H _ I h) fun ov s1 ⟨x, H1, I1, r1, q1⟩ => ?_))
 refine wpAny_bind (wpAny_holding (thn (hi pins s1 σ H1 _ I1 q1) fun iv s2 ⟨y, H2, I2, r2, q2⟩ => ?_))
 refine wpAny_bind (wpAny_standAt (wpAny_bind (wpAny_holding (thn (hs pins s2 σ H2 x y v ov iv u _ I2 r1 r2 r q2) fun _ s3 ⟨H3, I3, q3⟩ => ?_))))
 exact wpAny_release ⟨σ, H3, I3, q3⟩
theorem jg_sub {o i : Expr} {to ti : TE} {t : TSet} (ho : JE X o to) (hi : JE X i ti) (hs : PSet X t) (ha : ∀ v, assign (.Subscript o i pos) X.env v = (do
     let ov ← holding [v] (eval o X.env)
     let iv ← holding [v, ov] (eval i X.env)
     standAt pos
     holding [v, ov, iv] (setItem ov iv v)
     release [v, ov, iv] []) := by intro _; rfl) : JG X (.Subscript o i pos) (gSub to ti t) := .of (pg_sub ho.to hi.to hs ha)
def tAsg (te : TE) (g : TG) : TS := fun D σ H => te σ H fun x H1 => g x σ H1 D.nx
theorem js_asg {tg e : Expr} {te : TE} {g : TG} (he : JE X e te) (hg : JG X tg g) (hs : swapsWithSole [tg] e pos.line X.env = pure false := by rfl) (hw : swappedStores [tg] e X.env = pure none := by rfl) (h1 : (assignEach [tg] X.env).map (·.2) = [assign tg X.env] := by rfl) : JS X (.Assign [tg] e pos) (tAsg te g) := .of (by
 have he := he.to
 have hg := hg.to
 intro pins s σ H D I h
 refine wpAny_Assign_stores (thn (he pins s σ H _ I h) fun v s1 ⟨x, H1, I1, r1, q1⟩ => ?_) hs hw
 rw [h1]
 exact thn (hg pins s1 σ H1 x v _ I1 r1 q1) fun _ s2 q => q)
theorem qao {i : Nat} {x : Str} {e : Expr} {te : TE} {pos' : Pos} (hN : X.N.Nodup) (hi : X.N[i]? = some x) (hx : Loc X.env.scope x) (he : JE X e te) (hs : swapsWith e (some (.Name x pos')) pos.line X.env = pure false := by rfl) (hf : X.fn x = true ∨ X.env.scope.names.lookup x = some .local := by first | exact .inl rfl | exact .inr rfl | assumption) : JS X (.Assign [.Name x pos'] e pos) (tAsg te (gName i)) := .of (by
 have he := he.to
 intro pins s σ H D I h
 refine wpAny_Assign_Name (thn (he pins s σ H _ I h) fun v s1 ⟨y, H1, I1, r1, q1⟩ => ?_) hs
 exact store_ok I1 hN hi hx r1 (fun s2 I2 => ⟨_, H1, I2, q1⟩) hf)
def tAug (i : Nat) (te : TE) (ti : TIp) : TS := fun D σ H => ∃ x, σ[i]? = some (some x) /\ te σ H fun y H1 => ti x y H1 fun z H2 => D.nx (σ.set i (some z)) H2
theorem js_aug {i : Nat} {x : Str} {e : Expr} {te : TE} {op : Operator} {ti : TIp} {pos' : Pos} (hN : X.N.Nodup) (hi : X.N[i]? = some x) (hx : Loc X.env.scope x) (he : JE X e te) (ho : PIp X op ti) (hf : X.fn x = true ∨ X.env.scope.names.lookup x = some .local := by first | exact .inl rfl | exact .inr rfl | assumption) : JS X (.AugAssign (.Name x pos') op e pos) (tAug i te ti) := .of (by
 have he := he.to
 intro pins s σ H D I h
 obtain ⟨v, e1, h⟩ := h
 obtain ⟨m, hn, hl⟩ := I.loc
 have vis : Vis X.env.scope x := by rcases hx with k | k; exact .inl k; exact .inr (.inl k)
 obtain ⟨u, r, l⟩ := hl i x v hi e1 vis
 refine wpAny_AugAssign_Name ?_
 have go : wpAny (model X.prog X.w) X.A (eval e X.env) (fun w s₂ => wpAny (model X.prog X.w) X.A (inplaceOp op u w) (fun r s₃ => wpAny (model X.prog X.w) X.A (storeName X.env x r) (fun _ => SP X pins D .next) X.xe s₃) X.xe s₂) X.xe s := by
   refine thn (he pins s σ H _ I h) fun w s1 ⟨y, H1, I1, r1, q1⟩ => ?_
   refine thn (ho pins s1 σ H1 v y u w _ I1 r r1 q1) fun z s2 ⟨zv, H2, I2, r2, q2⟩ => ?_
   exact store_ok I2 hN hi hx r2 (fun s3 I3 => ⟨_, H2, I3, q2⟩) hf
 rcases l with ⟨hk, hm⟩ | ⟨hk, c, hc, hcell⟩
 . exact wpAny_loadName_local I.ok.kind hk hn hm go
 . rcases hk with hk | hk
   . exact wpAny_loadName_cell I.ok.kind hk hc hcell go
   . rcases hx with k | k
     . have : X.env.scope.names.lookup x = some .free := hk
       rw [k] at this; cases this
     . have : X.env.scope.names.lookup x = some .free := hk
       rw [k] at this; cases this)
def ipI (f : Int -> Int -> Int) : TIp := fun x y H Q => ∃ i j, x = .int i /\ y = .int j /\ Q (.int (f i j)) H
theorem ip_add : PIp X .Add (ipI fun i j => i + j) := by
 intro pins s σ H x y v u Q I r1 r2 h
 obtain ⟨i, j, e1, e2, q⟩ := h
 subst e1; subst e2
 obtain ⟨t, rfl⟩ := r1
 obtain ⟨t', rfl⟩ := r2
 exact iadd_int ⟨.int _, H, I.tok _, ⟨_, rfl⟩, q⟩
end
section
variable {X : Cx} {pos : Pos}
def tWhile (c : TT) (tb : TS) : TS := fun D σ H => ∃ W : Nat -> St -> Hp -> Prop, (∃ m, W m σ H) /\ ∀ m σ H, W m σ H →
 c σ H fun b H1 => if b = true then ∃ N : St -> Hp -> Prop, (∀ σ' H', N σ' H' -> ∃ m', m' < m /\ W m' σ' H') /\ tb { D with nx := N, ct := N, bk := D.nx } σ H1 else D.nx σ H1
theorem js_while {c : Expr} {body : List Stmt} {tc : TT} {tb : TS} (hp : PassesOwn (model X.prog X.w) X.A X.env X.xe) (hc : JT X c tc) (hb : JSs X body tb) : JS X (.While c body [] pos) (tWhile tc tb) := .of (by
 have hc := hc.to
 have hb := hb.to
 intro pins s σ H D I h
 obtain ⟨W, ⟨m0, w0⟩, turn⟩ := h
 refine wpAny_While (codeAny_whileLoop (fun n s' => ∃ σ' H', Inv X pins σ' H' s' /\ W n σ' H') ?_ m0 ⟨σ, H, I, w0⟩)
 rintro n s1 ⟨σ1, H1, I1, w1⟩
 refine wpAny_passesOwn hp (thn (hc pins s1 σ1 H1 _ I1 (turn n σ1 H1 w1)) fun b s2 ⟨H2, I2, q2⟩ => ?_)
 cases b with
 | true =>
   obtain ⟨N, hN, q2⟩ := q2
   rw [if_pos rfl]
   refine wpAny_passesOwn hp (thn (hb pins s2 σ1 H2 _ I2 q2) fun f s3 q3 => ?_)
   cases f with
   | next =>
     obtain ⟨σ3, H3, I3, n3⟩ := q3
     obtain ⟨m', hm, w3⟩ := hN σ3 H3 n3
     exact ⟨m', hm, σ3, H3, I3, w3⟩
   | cont =>
     obtain ⟨σ3, H3, I3, n3⟩ := q3
     obtain ⟨m', hm, w3⟩ := hN σ3 H3 n3
     exact ⟨m', hm, σ3, H3, I3, w3⟩
   | brk => exact q3
   | ret v => exact q3
 | false =>
   rw [if_neg Bool.false_ne_true]
   exact wpAny_execs_nil ⟨σ1, H2, I2, q2⟩)
end
structure It where
 go : Nat -> Hp -> Prop
 yld : Nat -> Hp -> V -> Hp -> Prop
 stop : Nat -> Hp -> Prop
def FpOk (X : Cx) (pins : List (Addr × Obj)) (H : Hp) (b : Addr) : Prop :=
 H b = none /\ b ≠ X.env.locals /\ b ∉ X.fs /\ (b ∈ X.ex ∨ X.s₀.heap.objs.size <= b) /\ (∀ x c, X.env.cells.lookup x = some c -> c ≠ b) /\ ∀ p ∈ X.pn ++ pins, p.1 ≠ b
theorem Inv.fpOk {X : Cx} {pins : List (Addr × Obj)} {σ : St} {H H' : Hp} {s : Shared} {b : Addr} (I : Inv X pins σ H s) (hb : s.heap.objs.size <= b) (hn : H' b = none) : FpOk X pins H' b := by
 refine ⟨hn, Nat.ne_of_gt (Nat.lt_of_lt_of_le I.lt hb), I.nofs hb, .inr (Nat.le_trans I.sz hb), fun x c e z => ?_, fun p hp z => ?_⟩
 . obtain ⟨v, q⟩ := I.cell x c e
   exact absurd (Nat.lt_of_lt_of_le q.lt (by rw [z]; exact hb)) (Nat.lt_irrefl _)
 . exact absurd (Nat.lt_of_lt_of_le (Heap.lt_size (I.pin p hp).1) (by rw [z]; exact hb)) (Nat.lt_irrefl _)
structure Turn (P : Program) (w : World) (K : PySem.W.Frag) (tg : Expr) (J : It) (fp : List Addr) (it : Addr) (tn : Nat -> Heap -> Prop) : Prop where
 mem : it ∈ fp
 obj : ∀ i h, tn i h -> ∀ b ∈ fp, ∃ o, h.get? b = some o /\ ∀ v, o.data ≠ .cell v
 keep : ∀ i h h', tn i h -> (∀ b ∈ fp, ∀ o, h.get? b = some o -> h'.get? b = some o) -> tn i h'
 item : ∀ (X : Cx), X.prog = P -> X.w = w -> X.K = K -> X.calm = true -> ∀ (i : Nat) (pins : List (Addr × Obj)) (s : Shared) (σ : St) (H : Hp) (E : Value -> Shared -> Prop), Inv X pins σ H s -> (∀ b ∈ fp, FpOk X pins H b) -> tn i s.heap -> J.go i H →
   wpAny (model P w) X.A (pyNext (.ref it)) (fun r s1 => ∃ u, r = some u ∧
     wpAny (model P w) X.A (letOwnedTupleGo tg (.ref it) u) (fun _ s2 => ∃ x H', Inv X pins σ H' s2 /\ RelV x u /\ J.yld i H x H' /\ tn (i + 1) s2.heap /\ ∀ b ∈ fp, H' b = none) E s1) E s
 done : ∀ (X : Cx), X.prog = P -> X.w = w -> X.K = K -> X.calm = true -> ∀ (i : Nat) (pins : List (Addr × Obj)) (s : Shared) (σ : St) (H : Hp) (E : Value -> Shared -> Prop), Inv X pins σ H s -> (∀ b ∈ fp, FpOk X pins H b) -> tn i s.heap -> J.stop i H →
   wpAny (model P w) X.A (pyNext (.ref it)) (fun r s1 => r = none /\ Inv X pins σ H s1) E s
 self : ∀ (A : Around) (i : Nat) (s : Shared) (Q : Value -> Shared -> Prop) (E : Value -> Shared -> Prop), tn i s.heap -> Q (.ref it) s -> wpAny (model P w) A (pyIter (.ref it)) Q E s
abbrev TI := St -> Hp -> (It -> Hp -> Prop) -> Prop
def PIE (X : Cx) (pins : List (Addr × Obj)) (σ : St) (tg : Expr) (R : It -> Hp -> Prop) (itv : Value) (s2 : Shared) : Prop :=
 ∃ (it : Addr) (fp : List Addr) (tn : Nat -> Heap -> Prop) (J : It) (H' : Hp), itv = .ref it /\ Inv X pins σ H' s2 /\ Turn X.prog X.w X.K tg J fp it tn /\ tn 0 s2.heap /\ (∀ b ∈ fp, FpOk X pins H' b) /\ R J H'
def PI (X : Cx) (tg iter : Expr) (wi : TI) : Prop :=
 ∀ (pins : List (Addr × Obj)) (s : Shared) (σ : St) (H : Hp) (R : It -> Hp -> Prop), Inv X pins σ H s -> wi σ H R →
   wpAny (model X.prog X.w) X.A (eval iter X.env) (fun v s1 => wpAny (model X.prog X.w) X.A (pyIter v) (PIE X pins σ tg R) X.xe s1) X.xe s
@[irreducible] def JI (X : Cx) (tg iter : Expr) (wi : TI) : Prop := PI X tg iter wi
theorem JI.of {X : Cx} {tg iter : Expr} {wi : TI} (h : PI X tg iter wi) : JI X tg iter wi := by unfold JI; exact h
theorem JI.to {X : Cx} {tg iter : Expr} {wi : TI} (h : JI X tg iter wi) : PI X tg iter wi := by unfold JI at h; exact h
theorem go_of {M : Model} {A : Around} {E : Value -> Shared -> Prop} {s : Shared} {tg : Expr} {it : Addr} {u : Value} {o : Obj} {n : String} {vs : Array Value} {Q : Unit -> Shared -> Prop} (ho : s.heap.get? it = some o) (hc : o.cls = .type n) (hd : o.data = .fields vs)
   (hn : ["enumerate", "zip", "dict_itemiterator", "dict_reverseitemiterator", "odict_iterator", "itertools.zip_longest", "itertools.pairwise"].contains n = false) (hQ : Q () s) : wpAny M A (letOwnedTupleGo tg (.ref it) u) Q E s := by
 unfold letOwnedTupleGo
 cases tg <;> first
   | exact wpAny_pure hQ
   | (cases u <;> first
       | exact wpAny_pure hQ
       | (refine wpAny_bind (wpAny_load ho ?_)
          rw [hc, hd]
          show wpAny M A (if (["enumerate", "zip", "dict_itemiterator", "dict_reverseitemiterator", "odict_iterator", "itertools.zip_longest", "itertools.pairwise"].contains n && vs[0]? == some (rawInt _)) = true then _ else _) Q E s
          rw [if_neg (by intro h; rw [hn, Bool.false_and] at h; cases h)]
          exact wpAny_pure hQ))
def Itl (K : PySem.W.Frag) (a : Addr) : It :=
 ⟨fun i H => ∃ xs x, SqL K H a xs /\ xs[i]? = some x, fun i H x H' => H' = H /\ ∀ xs, SqL K H a xs -> xs[i]? = some x, fun i H => ∃ xs, SqL K H a xs /\ xs.length <= i⟩
def Itt (K : PySem.W.Frag) (a : Addr) : It :=
 ⟨fun i H => ∃ xs x, SqT K H a xs /\ xs[i]? = some x, fun i H x H' => H' = H /\ ∀ xs, SqT K H a xs -> xs[i]? = some x, fun i H => ∃ xs, SqT K H a xs /\ xs.length <= i⟩
def Itr (lo : Int) (n : Nat) : It := ⟨fun i _ => i < n, fun i H x H' => H' = H /\ x = .int (lo + i), fun i _ => n <= i⟩
theorem turn_list {P : Program} {w : World} {K : PySem.W.Frag} {tg : Expr} (a it : Addr) : Turn P w K tg (Itl K a) [it] it (fun i h => h.IsListIter it a i) where
 mem := by simp
 obj := fun i h st b hb => by
   have e : b = it := by simpa using hb
   subst e
   obtain ⟨o, e, c, d⟩ := st
   exact ⟨o, e, fun v z => by rw [d] at z; cases z⟩
 keep := fun i h h' st k => st.at fun o e => k it (by simp) o e
 item := by
   intro X hP hw hK hc i pins s σ H E I hf st hg
   subst hP hw hK
   obtain ⟨xs, x, hq, hx⟩ := hg
   obtain ⟨its, rv, p, hz⟩ := I.list hq
   obtain ⟨u, hu, ru⟩ := rv.get hx
   obtain ⟨f0, f1, f2, f3, f4, f5⟩ := hf it (by simp)
   refine wpAny_pyNext_list_item st p.isList (x := u) (by simpa using hu) fun h' st' sb => ?_
   have I1 : Inv X pins σ H { s with heap := h' } := I.turned (t' := s.toks) (fun b o hb e => (sb.2 b hb).trans e) f0 f1 f3 f4 f5
   obtain ⟨o, e, c, d⟩ := id st'
   exact ⟨u, rfl, go_of (s := { s with heap := h' }) e c d (by decide) ⟨x, H, I1, ru, ⟨rfl, fun ys hy => by rw [I.list_inj hy hq]; exact hx⟩, st', fun b hb => (hf b hb).1⟩⟩
 done := by
   intro X hP hw hK hc i pins s σ H E I hf st hg
   subst hP hw hK
   obtain ⟨xs, hq, hx⟩ := hg
   obtain ⟨its, rv, p, hz⟩ := I.list hq
   obtain ⟨f0, f1, f2, f3, f4, f5⟩ := hf it (by simp)
   have hl := rv.length
   exact wpAny_pyNext_list_end (I.ok.hd hc) st p.isList (by simp; omega) fun h' eb => ⟨rfl, I.turned (t' := s.toks) (fun b o hb e => eb b o hb e) f0 f1 f3 f4 f5⟩
 self := fun _ _ _ _ _ st h => wpAny_pyIter_listiter st h
theorem turn_tuple {P : Program} {w : World} {K : PySem.W.Frag} {tg : Expr} (a it : Addr) : Turn P w K tg (Itt K a) [it] it (fun i h => h.IsTupleIter it a i) where
 mem := by simp
 obj := fun i h st b hb => by
   have e : b = it := by simpa using hb
   subst e
   obtain ⟨o, e, c, d⟩ := st
   exact ⟨o, e, fun v z => by rw [d] at z; cases z⟩
 keep := fun i h h' st k => st.at fun o e => k it (by simp) o e
 item := by
   intro X hP hw hK hc i pins s σ H E I hf st hg
   subst hP hw hK
   obtain ⟨xs, x, hq, hx⟩ := hg
   obtain ⟨its, rv, p, hz⟩ := I.tuple hq
   obtain ⟨u, hu, ru⟩ := rv.get hx
   obtain ⟨f0, f1, f2, f3, f4, f5⟩ := hf it (by simp)
   refine wpAny_pyNext_tuple_item st (show s.heap.IsTuple a its.toArray from p) (x := u) (by simpa using hu) fun h' st' sb => ?_
   have I1 : Inv X pins σ H { s with heap := h' } := I.turned (t' := s.toks) (fun b o hb e => (sb.2 b hb).trans e) f0 f1 f3 f4 f5
   obtain ⟨o, e, c, d⟩ := id st'
   exact ⟨u, rfl, go_of (s := { s with heap := h' }) e c d (by decide) ⟨x, H, I1, ru, ⟨rfl, fun ys hy => by rw [I.tuple_inj hy hq]; exact hx⟩, st', fun b hb => (hf b hb).1⟩⟩
 done := by
   intro X hP hw hK hc i pins s σ H E I hf st hg
   subst hP hw hK
   obtain ⟨xs, hq, hx⟩ := hg
   obtain ⟨its, rv, p, hz⟩ := I.tuple hq
   obtain ⟨f0, f1, f2, f3, f4, f5⟩ := hf it (by simp)
   have hl := rv.length
   exact wpAny_pyNext_tuple_end (I.ok.hd hc) st (show s.heap.IsTuple a its.toArray from p) (by simp; omega) fun h' eb => ⟨rfl, I.turned (t' := s.toks) (fun b o hb e => eb b o hb e) f0 f1 f3 f4 f5⟩
 self := fun _ _ _ _ _ st h => wpAny_pyIter_tupleiter st h
theorem turn_range {P : Program} {w : World} {K : PySem.W.Frag} {tg : Expr} (it : Addr) (lo : Int) (n : Nat) : Turn P w K tg (Itr lo n) [it] it (fun i h => IsRangeIter h it (lo + (i : Nat) * 1) ((n : Int) - (i : Nat)) 1) where
 mem := by simp
 obj := fun i h st b hb => by
   have e : b = it := by simpa using hb
   subst e
   exact ⟨_, st, fun v z => by
     have z' : Data.fields _ = Data.cell v := z
     cases z'⟩
 keep := fun i h h' st k => k it (by simp) _ st
 item := by
   intro X hP hw hK hc i pins s σ H E I hf st hg
   subst hP hw hK
   obtain ⟨f0, f1, f2, f3, f4, f5⟩ := hf it (by simp)
   have W := Walks.range (prog := X.prog) (w := X.w) (I.ok.hd hc) it lo 1 n
   refine W.item i s _ _ hg st fun v h' tk hv st' kk => ?_
   obtain ⟨t, rfl⟩ := hv
   have I1 : Inv X pins σ H { s with heap := h', toks := tk } := I.turned (fun b o hb e => kk b o (by simpa using hb) e) f0 f1 f3 f4 f5
   refine ⟨_, rfl, go_of (s := { s with heap := h', toks := tk }) (n := "range_iterator") st' rfl rfl (by decide) ⟨.int (lo + i), H, I1, ⟨t, ?_⟩, ⟨rfl, rfl⟩, st', fun b hb => (hf b hb).1⟩⟩
   rw [Int.mul_one]
 done := by
   intro X hP hw hK hc i pins s σ H E I hf st hg
   subst hP hw hK
   obtain ⟨f0, f1, f2, f3, f4, f5⟩ := hf it (by simp)
   exact wpAny_pyNext_range_end (I.ok.hd hc) st (by have : n <= i := hg; omega) fun h' eb => ⟨rfl, I.turned (t' := s.toks) (fun b o hb e => eb b o hb e) f0 f1 f3 f4 f5⟩
 self := fun _ _ _ _ _ st h => wpAny_pyIter_rangeiter st h
end L2
namespace L2
open PySem PySem.Spec PyProof.Rows
section
variable {X : Cx} {tg : Expr}
def iList (K : PySem.W.Frag) (tl : TE) : TI := fun σ H R => tl σ H fun x H1 => ∃ a, x = .ref a /\ (∃ xs, SqL K H1 a xs) /\ R (Itl K a) H1
def iTup (K : PySem.W.Frag) (tl : TE) : TI := fun σ H R => tl σ H fun x H1 => ∃ a, x = .ref a /\ (∃ xs, SqT K H1 a xs) /\ R (Itt K a) H1
theorem qar {l : Expr} {tl : TE} (hl : JE X l tl) : JI X tg l (iList X.K tl) := .of (by
 have hl := hl.to
 intro pins s σ H R I h
 refine thn (hl pins s σ H _ I h) fun v s1 ⟨x, H1, I1, r1, q1⟩ => ?_
 obtain ⟨a, e, ⟨xs, hq⟩, q⟩ := q1
 subst e
 cases r1
 obtain ⟨its, rv, p, hz⟩ := I1.list hq
 refine wpAny_pyIter_list p.isList ?_
 refine ⟨s1.heap.objs.size, [s1.heap.objs.size], _, _, H1, rfl, I1.kept (t' := s1.toks) fun b o e => Heap.get?_push_of_some _ e, turn_list a _, ⟨_, Heap.get?_push_size _ rfl, rfl, rfl⟩, fun b hb => ?_, q⟩
 have e : b = s1.heap.objs.size := by simpa using hb
 subst e
 exact I1.fpOk (Nat.le_refl _) (I1.hok.fresh (Nat.le_refl _)))
theorem ji_tup {l : Expr} {tl : TE} (hl : JE X l tl) : JI X tg l (iTup X.K tl) := .of (by
 have hl := hl.to
 intro pins s σ H R I h
 refine thn (hl pins s σ H _ I h) fun v s1 ⟨x, H1, I1, r1, q1⟩ => ?_
 obtain ⟨a, e, ⟨xs, hq⟩, q⟩ := q1
 subst e
 cases r1
 obtain ⟨its, rv, p, hz⟩ := I1.tuple hq
 refine wpAny_pyIter_tuple (show s1.heap.IsTuple a its.toArray from p) ?_
 refine ⟨s1.heap.objs.size, [s1.heap.objs.size], _, _, H1, rfl, I1.kept (t' := s1.toks) fun b o e => Heap.get?_push_of_some _ e, turn_tuple a _, ⟨_, Heap.get?_push_size _ rfl, rfl, rfl⟩, fun b hb => ?_, q⟩
 have e : b = s1.heap.objs.size := by simpa using hb
 subst e
 exact I1.fpOk (Nat.le_refl _) (I1.hok.fresh (Nat.le_refl _)))
theorem range_it {pins : List (Addr × Obj)} {σ : St} {H : Hp} {s : Shared} {R : It -> Hp -> Prop} {E : Value -> Shared -> Prop} {lo hi : Int} {t u v : Tok} {tk : Nat} (I : Inv X pins σ H s) (h1 : -(2 ^ 62) <= lo) (h2 : lo < 2 ^ 62) (h3 : -(2 ^ 62) <= hi) (h4 : hi < 2 ^ 62)
   (q : R (Itr lo (hi - lo).toNat) H) : wpAny (model X.prog X.w) X.A (pyIter (.ref s.heap.objs.size)) (PIE X pins σ tg R) E { s with heap := s.heap.push { cls := .type "range", data := .fields #[.int lo t, .int hi u, .int 1 v] }, toks := tk } := by
 refine wpAny_pyIter_range (IsRange.new ..) (small_one h1 h2 h3 h4) ?_
 have I1 : Inv X pins σ H { s with heap := s.heap.push { cls := .type "range", data := .fields #[.int lo t, .int hi u, .int 1 v] }, toks := tk } := I.kept fun b o e => Heap.get?_push_of_some _ e
 refine ⟨(s.heap.push { cls := .type "range", data := .fields #[.int lo t, .int hi u, .int 1 v] }).objs.size, [(s.heap.push { cls := .type "range", data := .fields #[.int lo t, .int hi u, .int 1 v] }).objs.size], _, _, H, rfl,
   I1.kept (t' := tk) fun b o e => Heap.get?_push_of_some _ e, turn_range _ lo (hi - lo).toNat, ?_, fun b hb => ?_, q⟩
 . have e1 : lo + ((0 : Nat) : Int) * 1 = lo := by simp
   have e2 : (((hi - lo).toNat : Nat) : Int) - ((0 : Nat) : Int) = Builtin.Range.rangeSize lo hi 1 := by rw [rangeSize_one]; split <;> omega
   show IsRangeIter _ _ (lo + ((0 : Nat) : Int) * 1) ((((hi - lo).toNat : Nat) : Int) - ((0 : Nat) : Int)) 1
   rw [e1, e2]
   exact Heap.get?_push_size _ rfl
 . have e : b = (s.heap.push { cls := .type "range", data := .fields #[.int lo t, .int hi u, .int 1 v] }).objs.size := by simpa using hb
   subst e
   exact I1.fpOk (Nat.le_refl _) (I1.hok.fresh (Nat.le_refl _))
def iRng1 (ta : TA) : TI := fun σ H R => ta σ H fun vs H1 => ∃ j : Int, vs = [.int j] /\ -(2 ^ 62) <= j /\ j < 2 ^ 62 /\ R (Itr 0 j.toNat) H1
theorem qaw {a : Expr} {ta : TA} {p pos : Pos} (hg : Gl X "range") (hm : X.mg "range" = none) (ha : JA X [a] ta) (hs : starEach [a] X.env = [(false, eval a X.env)] := by rfl) : JI X tg (.Call (.Name "range" p) [a] [] pos) (iRng1 ta) := .of (by
 have ha := ha.to
 intro pins s σ H R I h
 refine Call_ (ld_blt I hg hm boot_range (PyProof.Rows.callWith_type1 (thn (ha pos pins s σ H _ I h) fun us s1 ⟨vs, H1, I1, r1, q1⟩ => ?_) hs rfl))
 obtain ⟨j, e, q1, q2, q⟩ := q1
 subst e
 cases r1 with
 | cons r rr =>
   cases rr
   obtain ⟨t, rfl⟩ := r
   exact call_range_1 (range_it I1 (by omega) (by omega) q1 q2 (by simpa using q)))
def tFor (wi : TI) (g : TG) (tb : TS) : TS := fun D σ H => wi σ H fun J H1 => ∃ W : Nat -> Nat -> St -> Hp -> Prop, (∃ m, W 0 m σ H1) /\ ∀ i m σ H, W i m σ H →
 (J.stop i H /\ D.nx σ H) ∨ (J.go i H /\ ∃ N : St -> Hp -> Prop, (∀ σ' H', N σ' H' -> ∃ m', m' < m /\ W (i + 1) m' σ' H') /\ ∀ x H', J.yld i H x H' -> g x σ H' fun σ2 H2 => tb { D with nx := N, ct := N, bk := D.nx } σ2 H2)
def pinsAt (fp : List Addr) (h : Heap) : List (Addr × Obj) := fp.filterMap fun b => (h.get? b).map fun o => (b, o)
theorem mem_pinsAt {fp : List Addr} {h : Heap} {b : Addr} {o : Obj} (hb : b ∈ fp) (e : h.get? b = some o) : (b, o) ∈ pinsAt fp h := List.mem_filterMap.mpr ⟨b, hb, by rw [e]; rfl⟩
theorem of_pinsAt {fp : List Addr} {h : Heap} {p : Addr × Obj} (hp : p ∈ pinsAt fp h) : p.1 ∈ fp /\ h.get? p.1 = some p.2 := by
 obtain ⟨b, hb, e⟩ := List.mem_filterMap.mp hp
 cases q : h.get? b with
 | none => rw [q] at e; cases e
 | some o =>
   rw [q] at e
   have e' : (b, o) = p := Option.some.inj e
   subst e'
   exact ⟨hb, q⟩
theorem Inv.pinned {pins : List (Addr × Obj)} {σ : St} {H : Hp} {s : Shared} {fp : List Addr} (I : Inv X pins σ H s) (hf : ∀ b ∈ fp, FpOk X pins H b) (ho : ∀ b ∈ fp, ∃ o, s.heap.get? b = some o /\ ∀ v, o.data ≠ .cell v) : Inv X (pins ++ pinsAt fp s.heap) σ H s :=
 I.pins_of fun p hp => (List.mem_append.mp hp).elim (fun z => I.pin p (List.mem_append_right _ z)) fun z => by
   obtain ⟨hb, e⟩ := of_pinsAt z
   obtain ⟨f0, f1, f2, _⟩ := hf p.1 hb
   obtain ⟨o, e', d⟩ := ho p.1 hb
   rw [e] at e'; cases e'
   exact ⟨e, f0, f1, f2, d⟩
theorem Inv.unpinned {pins pl : List (Addr × Obj)} {σ : St} {H : Hp} {s : Shared} (I : Inv X (pins ++ pl) σ H s) : Inv X pins σ H s := I.pins_of fun p hp => I.pin p (List.mem_append_right _ (List.mem_append_left _ hp))
theorem qbf {iter : Expr} {body : List Stmt} {wi : TI} {g : TG} {tb : TS} {pos : Pos} (hp : PassesOwn (model X.prog X.w) X.A X.env X.xe) (hc : X.calm = true) (hi : JI X tg iter wi) (hg : JG X tg g) (hb : JSs X body tb) (hs : ∀ x, foldedSetIterable iter X.env x = pure x := by intro _; rfl) : JS X (.For tg iter body [] pos) (tFor wi g tb) := .of (by
 have hi := hi.to
 have hg := hg.to
 have hb := hb.to
 intro pins s σ H D I h
 refine wpAny_For (thn (hi pins s σ H _ I h) fun v s1 h1 => thn h1 fun itv s2 h2 => ?_) hs
 obtain ⟨it, fp, tn, J, H2, e, I2, T, st2, f2, W, ⟨m0, w0⟩, turn⟩ := h2
 subst e
 have stat : ∀ {H' : Hp}, (∀ b ∈ fp, H' b = none) -> ∀ b ∈ fp, FpOk X pins H' b := fun hn b hb => ⟨hn b hb, (f2 b hb).2⟩
 refine codeAny_forLoop_any (fun n s' => ∃ i σ' H', Inv X pins σ' H' s' /\ tn i s'.heap /\ (∀ b ∈ fp, H' b = none) /\ W i n σ' H') ?_ m0 ⟨0, σ, H2, I2, st2, fun b hb => (f2 b hb).1, w0⟩
 rintro n s3 ⟨i, σ3, H3, I3, st3, fr3, w3⟩
 rcases turn i n σ3 H3 w3 with ⟨stop, qn⟩ | ⟨go, N, hN, step⟩
 . refine wpAny_passesOwn hp (thn (T.done X rfl rfl rfl hc i pins s3 σ3 H3 X.xe I3 (stat fr3) st3 stop) fun r s4 ⟨hr, I4⟩ => ?_)
   subst hr
   exact wpAny_execs_nil ⟨σ3, H3, I4, qn⟩
 . refine wpAny_passesOwn hp (thn (T.item X rfl rfl rfl hc i pins s3 σ3 H3 X.xe I3 (stat fr3) st3 go) fun r s4 ⟨u, hr, h4⟩ => ?_)
   subst hr
   refine wpAny_passesOwn hp (thn h4 fun _ s5 ⟨x, H5, I5, r5, y5, st5, fr5⟩ => ?_)
   have I5' := I5.pinned (stat fr5) (T.obj _ _ st5)
   refine wpAny_passesOwn hp (thn (hg _ s5 σ3 H5 x u _ I5' r5 (step x H5 y5)) fun _ s6 ⟨σ6, H6, I6, q6⟩ => ?_)
   refine wpAny_passesOwn hp (thn (hb _ s6 σ6 H6 _ I6 q6) fun f s7 q7 => ?_)
   have again : ∀ {σ7 : St} {H7 : Hp}, Inv X (pins ++ pinsAt fp s5.heap) σ7 H7 s7 -> N σ7 H7 -> ∃ m, m < n /\ ∃ i σ' H', Inv X pins σ' H' s7 /\ tn i s7.heap /\ (∀ b ∈ fp, H' b = none) /\ W i m σ' H' := fun {σ7 H7} I7 n7 => by
     obtain ⟨m', hm, w7⟩ := hN σ7 H7 n7
     refine ⟨m', hm, i + 1, σ7, H7, I7.unpinned, T.keep _ _ _ st5 fun b hb o e => (I7.pin (b, o) (List.mem_append_right _ (List.mem_append_right _ (mem_pinsAt hb e)))).1, fun b hb => ?_, w7⟩
     obtain ⟨o, e, d⟩ := T.obj _ _ st5 b hb
     exact (I7.pin (b, o) (List.mem_append_right _ (List.mem_append_right _ (mem_pinsAt hb e)))).2.1
   cases f with
   | next => obtain ⟨σ7, H7, I7, n7⟩ := q7; exact again I7 n7
   | cont => obtain ⟨σ7, H7, I7, n7⟩ := q7; exact again I7 n7
   | brk => obtain ⟨σ7, H7, I7, q7⟩ := q7; exact ⟨σ7, H7, I7.unpinned, q7⟩
   | ret v => obtain ⟨x7, σ7, H7, I7, r7, q7⟩ := q7; exact ⟨x7, σ7, H7, I7.unpinned, r7, q7⟩)
end
theorem qbh {K : PySem.W.Frag} {a : Addr} {xs : List V} {g : TG} {tb : TS} {D : Ends} {σ : St} {H : Hp} (Pv : Nat -> St -> Hp -> Prop) (h0 : Pv 0 σ H) (hl : ∀ i σ H, i <= xs.length -> Pv i σ H -> SqL K H a xs)
   (hs : ∀ i x σ H, xs[i]? = some x -> Pv i σ H -> g x σ H fun σ2 H2 => tb { D with nx := Pv (i + 1), ct := Pv (i + 1), bk := D.nx } σ2 H2) (hd : ∀ σ H, Pv xs.length σ H -> D.nx σ H) :
   ∃ W : Nat -> Nat -> St -> Hp -> Prop, (∃ m, W 0 m σ H) /\ ∀ i m σ H, W i m σ H →
     ((Itl K a).stop i H /\ D.nx σ H) ∨ ((Itl K a).go i H /\ ∃ N : St -> Hp -> Prop, (∀ σ' H', N σ' H' -> ∃ m', m' < m /\ W (i + 1) m' σ' H') /\ ∀ x H', (Itl K a).yld i H x H' -> g x σ H' fun σ2 H2 => tb { D with nx := N, ct := N, bk := D.nx } σ2 H2) := by
 refine ⟨fun i m σ H => m = xs.length - i /\ i <= xs.length /\ Pv i σ H, ⟨xs.length, by simp, Nat.zero_le _, h0⟩, ?_⟩
 rintro i m σ H ⟨rfl, hi, p⟩
 have q := hl i σ H hi p
 by_cases hlt : i < xs.length
 . refine .inr ⟨⟨xs, xs[i], q, by simp [hlt]⟩, Pv (i + 1), fun σ' H' p' => ⟨xs.length - (i + 1), by omega, rfl, hlt, p'⟩, fun x H' y => ?_⟩
   obtain ⟨e, y⟩ := y
   subst e
   exact hs i x σ _ (y xs q) p
 . have e : i = xs.length := by omega
   subst e
   exact .inl ⟨⟨xs, q, Nat.le_refl _⟩, hd σ H p⟩
theorem for_tup {K : PySem.W.Frag} {a : Addr} {xs : List V} {g : TG} {tb : TS} {D : Ends} {σ : St} {H : Hp} (Pv : Nat -> St -> Hp -> Prop) (h0 : Pv 0 σ H) (hl : ∀ i σ H, i <= xs.length -> Pv i σ H -> SqT K H a xs)
   (hs : ∀ i x σ H, xs[i]? = some x -> Pv i σ H -> g x σ H fun σ2 H2 => tb { D with nx := Pv (i + 1), ct := Pv (i + 1), bk := D.nx } σ2 H2) (hd : ∀ σ H, Pv xs.length σ H -> D.nx σ H) :
   ∃ W : Nat -> Nat -> St -> Hp -> Prop, (∃ m, W 0 m σ H) /\ ∀ i m σ H, W i m σ H →
     ((Itt K a).stop i H /\ D.nx σ H) ∨ ((Itt K a).go i H /\ ∃ N : St -> Hp -> Prop, (∀ σ' H', N σ' H' -> ∃ m', m' < m /\ W (i + 1) m' σ' H') /\ ∀ x H', (Itt K a).yld i H x H' -> g x σ H' fun σ2 H2 => tb { D with nx := N, ct := N, bk := D.nx } σ2 H2) := by
 refine ⟨fun i m σ H => m = xs.length - i /\ i <= xs.length /\ Pv i σ H, ⟨xs.length, by simp, Nat.zero_le _, h0⟩, ?_⟩
 rintro i m σ H ⟨rfl, hi, p⟩
 have q := hl i σ H hi p
 by_cases hlt : i < xs.length
 . refine .inr ⟨⟨xs, xs[i], q, by simp [hlt]⟩, Pv (i + 1), fun σ' H' p' => ⟨xs.length - (i + 1), by omega, rfl, hlt, p'⟩, fun x H' y => ?_⟩
   obtain ⟨e, y⟩ := y
   subst e
   exact hs i x σ _ (y xs q) p
 . have e : i = xs.length := by omega
   subst e
   exact .inl ⟨⟨xs, q, Nat.le_refl _⟩, hd σ H p⟩
theorem qcc {lo : Int} {n : Nat} {g : TG} {tb : TS} {D : Ends} {σ : St} {H : Hp} (Pv : Nat -> St -> Hp -> Prop) (h0 : Pv 0 σ H)
   (hs : ∀ i σ H, i < n -> Pv i σ H -> g (.int (lo + i)) σ H fun σ2 H2 => tb { D with nx := Pv (i + 1), ct := Pv (i + 1), bk := D.nx } σ2 H2) (hd : ∀ σ H, Pv n σ H -> D.nx σ H) :
   ∃ W : Nat -> Nat -> St -> Hp -> Prop, (∃ m, W 0 m σ H) /\ ∀ i m σ H, W i m σ H →
     ((Itr lo n).stop i H /\ D.nx σ H) ∨ ((Itr lo n).go i H /\ ∃ N : St -> Hp -> Prop, (∀ σ' H', N σ' H' -> ∃ m', m' < m /\ W (i + 1) m' σ' H') /\ ∀ x H', (Itr lo n).yld i H x H' -> g x σ H' fun σ2 H2 => tb { D with nx := N, ct := N, bk := D.nx } σ2 H2) := by
 refine ⟨fun i m σ H => m = n - i /\ i <= n /\ Pv i σ H, ⟨n, by simp, Nat.zero_le _, h0⟩, ?_⟩
 rintro i m σ H ⟨rfl, hi, p⟩
 by_cases hlt : i < n
 . refine .inr ⟨hlt, Pv (i + 1), fun σ' H' p' => ⟨n - (i + 1), by omega, rfl, hlt, p'⟩, fun x H' y => ?_⟩
   obtain ⟨e, y⟩ := y
   subst e y
   exact hs i σ _ hlt p
 . have e : i = n := by omega
   subst e
   exact .inl ⟨Nat.le_refl _, hd σ H p⟩
theorem while_by {c : TT} {tb : TS} {D : Ends} {σ : St} {H : Hp} (Pv : St -> Hp -> Prop) (μ : St -> Hp -> Nat) (h0 : Pv σ H)
   (hs : ∀ σ H, Pv σ H -> c σ H fun b H1 => if b = true then tb { D with nx := fun σ' H' => Pv σ' H' /\ μ σ' H' < μ σ H, ct := fun σ' H' => Pv σ' H' /\ μ σ' H' < μ σ H, bk := D.nx } σ H1 else D.nx σ H1)
   (mono : ∀ σ H Q Q', (∀ b H1, Q b H1 -> Q' b H1) -> c σ H Q -> c σ H Q') : tWhile c tb D σ H := by
 refine ⟨fun m σ H => m = μ σ H /\ Pv σ H, ⟨_, rfl, h0⟩, ?_⟩
 rintro m σ H ⟨rfl, p⟩
 refine mono σ H _ _ (fun b H1 q => ?_) (hs σ H p)
 cases b with
 | true => exact ⟨_, fun σ' H' ⟨p', l⟩ => ⟨_, l, rfl, p'⟩, q⟩
 | false => exact q
end L2
namespace L2
open PySem PySem.Spec PyProof.Rows
abbrev R2 := V -> V -> Hp -> VK -> Prop
def OpR (X : Cx) (f : Value -> Value -> Sem Value) (r : R2) : Prop :=
 ∀ (pins : List (Addr × Obj)) (s : Shared) (σ : St) (H : Hp) (x y : V) (v u : Value) (Q : VK), Inv X pins σ H s -> RelV x v -> RelV y u -> r x y H Q →
   wpAny (model X.prog X.w) X.A (f v u) (EP X pins σ Q) X.xe s
def CallR (X : Cx) (f : Value) (r : List V -> Hp -> VK -> Prop) : Prop :=
 ∀ (pins : List (Addr × Obj)) (s : Shared) (σ : St) (H : Hp) (xs : List V) (us : List Value) (Q : VK), Inv X pins σ H s -> Vals xs us -> r xs H Q →
   wpAny (model X.prog X.w) X.A (call f us) (EP X pins σ Q) X.xe s
def tOp (r : R2) (ta tb : TE) : TE := fun σ H Q => ta σ H fun x H1 => tb σ H1 fun y H2 => r x y H2 Q
def rI (C : Int -> Int -> Prop) (g : Int -> Int -> V) : R2 := fun x y H Q => ∃ i j, x = .int i /\ y = .int j /\ C i j /\ Q (g i j) H
def rI0 (g : Int -> Int -> V) : R2 := fun x y H Q => ∃ i j, x = .int i /\ y = .int j /\ Q (g i j) H
section
variable {X : Cx} {a b c : Expr} {ta tb tc : TE} {pos : Pos}
theorem binT (ha : PE X a ta) (hb : PE X b tb) {pins : List (Addr × Obj)} {s : Shared} {σ : St} {H : Hp} {R : V -> V -> Hp -> Prop} (I : Inv X pins σ H s)
   (h : ta σ H fun x H1 => tb σ H1 fun y H2 => R x y H2) {Q : Value -> Shared -> Prop} {f : Value -> Value -> Sem Value}
   (hf : ∀ v u s2 x y H2, Inv X pins σ H2 s2 -> RelV x v -> RelV y u -> R x y H2 -> wpAny (model X.prog X.w) X.A (f v u) Q X.xe s2) :
   wpAny (model X.prog X.w) X.A (eval a X.env) (fun v s₁ => wpAny (model X.prog X.w) X.A (eval b X.env) (fun u s₂ => wpAny (model X.prog X.w) X.A (f v u) Q X.xe s₂) X.xe s₁) X.xe s := by
 refine thn (ha pins s σ H _ I h) fun v s1 ⟨x, H1, I1, r1, q1⟩ => ?_
 refine thn (hb pins s1 σ H1 _ I1 q1) fun u s2 ⟨y, H2, I2, r2, q2⟩ => ?_
 exact hf v u s2 x y H2 I2 r1 r2 q2
theorem qau {op : Operator} {r : R2} (ho : OpR X (binaryOp op) r) (ha : JE X a ta) (hb : JE X b tb) : JE X (.BinOp a op b pos) (tOp r ta tb) := .of (by
 have ha := ha.to
 have hb := hb.to
 intro pins s σ H Q I h
 exact wpAny_BinOp (binT ha hb I h fun v u s2 x y H2 I2 rx ry q => ho pins s2 σ H2 x y v u Q I2 rx ry q))
theorem opI {f : Value -> Value -> Sem Value} {C : Int -> Int -> Prop} {g : Int -> Int -> Int}
   (rule : ∀ (i j : Int) (t u : Tok) (s : Shared) (Q : Value -> Shared -> Prop) (E : Value -> Shared -> Prop), C i j -> Q (.int (g i j) s.toks) { s with toks := s.toks + 1 } -> wpAny (model X.prog X.w) X.A (f (.int i t) (.int j u)) Q E s) :
   OpR X f (rI C fun i j => .int (g i j)) := by
 intro pins s σ H x y v u Q I rx ry h
 obtain ⟨i, j, rfl, rfl, hc, q⟩ := h
 obtain ⟨t, rfl⟩ := rx
 obtain ⟨t', rfl⟩ := ry
 exact rule i j t t' s _ _ hc ⟨.int (g i j), H, I.tok _, ⟨_, rfl⟩, q⟩
theorem opI0 {f : Value -> Value -> Sem Value} {g : Int -> Int -> Int}
   (rule : ∀ (i j : Int) (t u : Tok) (s : Shared) (Q : Value -> Shared -> Prop) (E : Value -> Shared -> Prop), Q (.int (g i j) s.toks) { s with toks := s.toks + 1 } -> wpAny (model X.prog X.w) X.A (f (.int i t) (.int j u)) Q E s) :
   OpR X f (rI0 fun i j => .int (g i j)) := by
 intro pins s σ H x y v u Q I rx ry h
 obtain ⟨i, j, rfl, rfl, q⟩ := h
 obtain ⟨t, rfl⟩ := rx
 obtain ⟨t', rfl⟩ := ry
 exact rule i j t t' s _ _ ⟨.int (g i j), H, I.tok _, ⟨_, rfl⟩, q⟩
theorem opB0 {f : Value -> Value -> Sem Value} {g : Int -> Int -> Bool}
   (rule : ∀ (i j : Int) (t u : Tok) (s : Shared) (Q : Value -> Shared -> Prop) (E : Value -> Shared -> Prop), Q (.bool (g i j)) s -> wpAny (model X.prog X.w) X.A (f (.int i t) (.int j u)) Q E s) :
   OpR X f (rI0 fun i j => .bl (g i j)) := by
 intro pins s σ H x y v u Q I rx ry h
 obtain ⟨i, j, rfl, rfl, q⟩ := h
 obtain ⟨t, rfl⟩ := rx
 obtain ⟨t', rfl⟩ := ry
 exact rule i j t t' s _ _ ⟨.bl (g i j), H, I, rfl, q⟩
def CDiv (i j : Int) : Prop := 0 < j /\ j < 1073741824
def CPow (i j : Int) : Prop := 0 <= j /\ j <= 1000000 /\ i.natAbs < 2 ^ 64
def CMul (i j : Int) : Prop := (-(2 ^ 64) < i /\ i < 2 ^ 64) ∨ (-(2 ^ 64) < j /\ j < 2 ^ 64)
theorem CMul.ok {i j : Int} (h : CMul i j) : IntMulOk i j := by
 rcases h with ⟨h1, h2⟩ | ⟨h1, h2⟩
 . exact .of_left (intBits_le_64 h1 h2)
 . exact .of_right (intBits_le_64 h1 h2)
theorem two_pow_nn (k : Nat) : (0 : Int) <= 2 ^ k := by
 rw [two_pow_cast]
 exact Int.natCast_nonneg _
theorem op_add : OpR X (binaryOp .Add) (rI0 fun i j => .int (i + j)) := opI0 fun _ _ _ _ _ _ _ q => add_int q
theorem op_sub : OpR X (binaryOp .Sub) (rI0 fun i j => .int (i - j)) := opI0 fun _ _ _ _ _ _ _ q => sub_int q
theorem op_mul : OpR X (binaryOp .Mult) (rI CMul fun i j => .int (i * j)) := opI fun _ _ _ _ _ _ _ hc q => mul_int q hc.ok
theorem op_fdiv : OpR X (binaryOp .FloorDiv) (rI CDiv fun i j => .int (i / j)) := opI fun i j _ _ _ _ _ hc q => by
 have h1 : (0 : Int) < j := hc.1
 have h2 : j < 1073741824 := hc.2
 exact floordiv_int (by omega) (by rw [Int.fdiv_eq_ediv_of_nonneg i (by omega)]; exact q) (.inl (PyProof.noPylong_small (by omega)))
theorem op_mod : OpR X (binaryOp .Mod) (rI (fun _ j => 0 < j) fun i j => .int (i % j)) := opI fun i j _ _ _ _ _ hc q => by
 have h1 : (0 : Int) < j := hc
 exact mod_int' (by omega) (by rw [Int.fmod_eq_emod_of_nonneg i (by omega)]; exact q)
theorem op_pow : OpR X (binaryOp .Pow) (rI CPow fun i j => .int (i ^ j.toNat)) := opI fun _ _ _ _ _ _ _ hc q => pow_int_small hc.1 hc.2.1 hc.2.2 q
theorem op_shl : OpR X (binaryOp .LShift) (rI CPow fun i j => .int (i * 2 ^ j.toNat)) := opI fun _ _ _ _ _ _ _ hc q => lshift_int_small hc.1 hc.2.1 hc.2.2 q
theorem op_shr : OpR X (binaryOp .RShift) (rI (fun _ j => 0 <= j) fun i j => .int (i / 2 ^ j.toNat)) := opI fun i j _ _ _ _ _ hc q =>
 rshift_int hc (by rw [Int.fdiv_eq_ediv_of_nonneg i (two_pow_nn _)]; exact q)
theorem op_and : OpR X (binaryOp .BitAnd) (rI0 fun i j => .int (Builtin.bitAnd i j)) := opI0 fun _ _ _ _ _ _ _ q => and_int q
theorem op_or : OpR X (binaryOp .BitOr) (rI0 fun i j => .int (Builtin.bitOr i j)) := opI0 fun _ _ _ _ _ _ _ q => or_int q
theorem op_xor : OpR X (binaryOp .BitXor) (rI0 fun i j => .int (Builtin.bitXor i j)) := opI0 fun _ _ _ _ _ _ _ q => xor_int q
end
def scal : V -> V -> Bool
 | .non, .non => true | .non, .int _ => true | .int _, .non => true | .non, .bl _ => true | .bl _, .non => true | .non, .str _ => true | .str _, .non => true
 | .int _, .int _ => true | .bl _, .bl _ => true | .str _, .str _ => true | .byt _, .byt _ => true
 | .int _, .str _ => true | .str _, .int _ => true | .bl _, .str _ => true | .str _, .bl _ => true
 | _, _ => false
def rEq : R2 := fun x y H Q => scal x y = true /\ Q (.bl (decide (x = y))) H
def rNe : R2 := fun x y H Q => scal x y = true /\ Q (.bl (!decide (x = y))) H
theorem dec_int {i j : Int} : decide (V.int i = V.int j) = (i == j) := by
 rw [Bool.eq_iff_iff]
 simp
theorem dec_bl {i j : Bool} : decide (V.bl i = V.bl j) = (i == j) := by
 rw [Bool.eq_iff_iff]
 simp
theorem dec_str {i j : Str} : decide (V.str i = V.str j) = (i == j) := by
 rw [Bool.eq_iff_iff]
 simp
theorem dec_byt {i j : Array UInt8} : decide (V.byt i = V.byt j) = (i.toList == j.toList) := by
 rw [Bool.eq_iff_iff]
 cases i
 cases j
 simp
section
variable {X : Cx} {a b c : Expr} {ta tb tc : TE} {pos : Pos}
theorem qax {pins : List (Addr × Obj)} {σ : St} {H : Hp} {s : Shared} {Q : VK} {k k' : Bool} (I : Inv X pins σ H s) (q : Q (.bl k) H) (e : k = k') : EP X pins σ Q (.bool k') s := by
 subst e
 exact ⟨.bl k, H, I, rfl, q⟩
theorem op_eq : OpR X (compareOp .Eq) rEq := by
 intro pins s σ H x y v u Q I rx ry h
 obtain ⟨hs, q⟩ := h
 cases x with
 | non =>
   cases rx
   cases y with
   | non => cases ry; exact PySem.EqNone.eq_none_none (qax I q (by simp))
   | bl j => cases ry; exact PySem.EqNone.eq_none_bool (qax I q (by simp))
   | int j => obtain ⟨t', rfl⟩ := ry; exact PySem.EqNone.eq_none_int (qax I q (by simp))
   | str j => obtain ⟨t', rfl⟩ := ry; exact PySem.EqNone.eq_none_str (qax I q (by simp))
   | _ => exact absurd (show false = true from hs) Bool.false_ne_true
 | bl i =>
   cases rx
   cases y with
   | non => cases ry; exact PySem.EqNone.eq_bool_none (qax I q (by simp))
   | bl j => cases ry; exact eq_bool (qax I q dec_bl)
   | str j => obtain ⟨t', rfl⟩ := ry; exact PySem.EqMixed.eq_bool_str (qax I q (by simp))
   | _ => exact absurd (show false = true from hs) Bool.false_ne_true
 | int i =>
   obtain ⟨t, rfl⟩ := rx
   cases y with
   | non => cases ry; exact PySem.EqNone.eq_int_none (qax I q (by simp))
   | int j => obtain ⟨t', rfl⟩ := ry; exact eq_int (qax I q dec_int)
   | str j => obtain ⟨t', rfl⟩ := ry; exact PySem.EqMixed.eq_int_str (qax I q (by simp))
   | _ => exact absurd (show false = true from hs) Bool.false_ne_true
 | str i =>
   obtain ⟨t, rfl⟩ := rx
   cases y with
   | non => cases ry; exact PySem.EqNone.eq_str_none (qax I q (by simp))
   | bl j => cases ry; exact PySem.EqMixed.eq_str_bool (qax I q (by simp))
   | int j => obtain ⟨t', rfl⟩ := ry; exact PySem.EqMixed.eq_str_int (qax I q (by simp))
   | str j => obtain ⟨t', rfl⟩ := ry; exact eq_str (qax I q dec_str)
   | _ => exact absurd (show false = true from hs) Bool.false_ne_true
 | byt i =>
   obtain ⟨t, rfl⟩ := rx
   cases y with
   | byt j => obtain ⟨t', rfl⟩ := ry; exact PySem.W.eq_bytes (qax I q dec_byt)
   | _ => exact absurd (show false = true from hs) Bool.false_ne_true
 | _ => cases y <;> exact absurd (show false = true from hs) Bool.false_ne_true
theorem op_ne : OpR X (compareOp .NotEq) rNe := by
 intro pins s σ H x y v u Q I rx ry h
 obtain ⟨hs, q⟩ := h
 cases x with
 | non =>
   cases rx
   cases y with
   | non => cases ry; exact PySem.EqNone.ne_none_none (qax I q (by simp))
   | bl j => cases ry; exact PySem.EqNone.ne_none_bool (qax I q (by simp))
   | int j => obtain ⟨t', rfl⟩ := ry; exact PySem.EqNone.ne_none_int (qax I q (by simp))
   | str j => obtain ⟨t', rfl⟩ := ry; exact PySem.EqNone.ne_none_str (qax I q (by simp))
   | _ => exact absurd (show false = true from hs) Bool.false_ne_true
 | bl i =>
   cases rx
   cases y with
   | non => cases ry; exact PySem.EqNone.ne_bool_none (qax I q (by simp))
   | bl j => cases ry; exact ne_bool (qax I q (congrArg not dec_bl))
   | str j => obtain ⟨t', rfl⟩ := ry; exact PySem.EqMixed.ne_bool_str (qax I q (by simp))
   | _ => exact absurd (show false = true from hs) Bool.false_ne_true
 | int i =>
   obtain ⟨t, rfl⟩ := rx
   cases y with
   | non => cases ry; exact PySem.EqNone.ne_int_none (qax I q (by simp))
   | int j => obtain ⟨t', rfl⟩ := ry; exact ne_int (qax I q (congrArg not dec_int))
   | str j => obtain ⟨t', rfl⟩ := ry; exact PySem.EqMixed.ne_int_str (qax I q (by simp))
   | _ => exact absurd (show false = true from hs) Bool.false_ne_true
 | str i =>
   obtain ⟨t, rfl⟩ := rx
   cases y with
   | non => cases ry; exact PySem.EqNone.ne_str_none (qax I q (by simp))
   | bl j => cases ry; exact PySem.EqMixed.ne_str_bool (qax I q (by simp))
   | int j => obtain ⟨t', rfl⟩ := ry; exact PySem.EqMixed.ne_str_int (qax I q (by simp))
   | str j => obtain ⟨t', rfl⟩ := ry; exact ne_str (qax I q (congrArg not dec_str))
   | _ => exact absurd (show false = true from hs) Bool.false_ne_true
 | byt i =>
   obtain ⟨t, rfl⟩ := rx
   cases y with
   | byt j => obtain ⟨t', rfl⟩ := ry; exact PySem.W.ne_bytes (qax I q (congrArg not dec_byt))
   | _ => exact absurd (show false = true from hs) Bool.false_ne_true
 | _ => cases y <;> exact absurd (show false = true from hs) Bool.false_ne_true
theorem op_lt : OpR X (compareOp .Lt) (rI0 fun i j => .bl (decide (i < j))) := opB0 fun _ _ _ _ _ _ _ q => lt_int q
theorem op_le : OpR X (compareOp .LtE) (rI0 fun i j => .bl (decide (i <= j))) := opB0 fun _ _ _ _ _ _ _ q => le_int q
theorem op_gt : OpR X (compareOp .Gt) (rI0 fun i j => .bl (decide (j < i))) := opB0 fun _ _ _ _ _ _ _ q => gt_int q
theorem op_ge : OpR X (compareOp .GtE) (rI0 fun i j => .bl (decide (j <= i))) := opB0 fun _ _ _ _ _ _ _ q => ge_int q
theorem op_in_str : OpR X (compareOp .In) (fun x y H Q => ∃ i j, x = .str i /\ y = .str j /\ Q (.bl (!(Builtin.Str.occurrences j i 0 j.length 1).isEmpty)) H) := by
 intro pins s σ H x y v u Q I rx ry h
 obtain ⟨i, j, rfl, rfl, q⟩ := h
 obtain ⟨t, rfl⟩ := rx
 obtain ⟨t', rfl⟩ := ry
 exact in_str (qax I q rfl)
theorem nomark (b : Expr) {op : CmpOp} (h : op ≠ .In := by decide) (h2 : op ≠ .NotIn := by decide) : behindInMarks op b = false := by
 have e1 : (op == CmpOp.In) = false := by cases op <;> first | rfl | exact absurd rfl h
 have e2 : (op == CmpOp.NotIn) = false := by cases op <;> first | rfl | exact absurd rfl h2
 cases b <;> simp [behindInMarks, e1, e2]
theorem qcn {op : CmpOp} {r : R2} (ho : OpR X (compareOp op) r) (ha : JE X a ta) (hb : JE X b tb) (hm : behindInMarks op b = false) : JE X (.Compare a [op] [b] pos) (tOp r ta tb) := .of (by
 have ha := ha.to
 have hb := hb.to
 intro pins s σ H Q I h
 exact wpAny_Compare1 (binT ha hb I h fun v u s2 x y H2 I2 rx ry q => ho pins s2 σ H2 x y v u Q I2 rx ry q) hm)
def tTest (t : TE) : TT := fun σ H Q => t σ H fun x H' => ∃ k, x = .bl k /\ Q k H'
theorem qak {op : CmpOp} {r : R2} (ho : OpR X (compareOp op) r) (ha : JE X a ta) (hb : JE X b tb) (hm : behindInMarks op b = false) : JT X (.Compare a [op] [b] pos) (tTest (tOp r ta tb)) := .of (by
 have ha := ha.to
 have hb := hb.to
 intro pins s σ H Q I h
 refine wpAny_isTrue_Compare1 (thn (ha pins s σ H _ I h) fun v s1 ⟨x, H1, I1, r1, q1⟩ => thn (hb pins s1 σ H1 _ I1 q1) fun u s2 ⟨y, H2, I2, r2, q2⟩ =>
   thn (ho pins s2 σ H2 x y v u _ I2 r1 r2 q2) fun c s3 ⟨z, H3, I3, r3, k, e, q3⟩ => ?_) hm
 subst e
 cases r3
 exact wpAny_truthy_bool ⟨H3, I3, q3⟩)
theorem line63 : (sizeLine : Nat) < 2 ^ 63 := by rw [sizeLine_eq]; decide
theorem op_add_str : OpR X (binaryOp .Add) (fun x y H Q => ∃ i j, x = .str i /\ y = .str j /\ i.length + j.length <= sizeLine /\ Q (.str (i ++ j)) H) := by
 intro pins s σ H x y v u Q I rx ry h
 obtain ⟨i, j, rfl, rfl, hz, q⟩ := h
 obtain ⟨t, rfl⟩ := rx
 obtain ⟨t', rfl⟩ := ry
 exact add_str (fun t' tk => ⟨.str (i ++ j), H, I.tok _, ⟨_, rfl⟩, q⟩) hz
theorem vals1 {x : V} {us : List Value} (r : Vals [x] us) : ∃ u, us = [u] /\ RelV x u := by
 cases r with
 | cons r1 r2 => cases r2; exact ⟨_, rfl, r1⟩
theorem vals2 {x y : V} {us : List Value} (r : Vals [x, y] us) : ∃ u w', us = [u, w'] /\ RelV x u /\ RelV y w' := by
 cases r with
 | cons r1 r2 =>
   cases r2 with
   | cons r3 r4 => cases r4; exact ⟨_, _, rfl, r1, r3⟩
theorem call_max2 (hc : X.calm = true) : CallR X (.builtin "max") (fun xs H Q => ∃ i j, xs = [.int i, .int j] /\ Q (.int (if j > i then j else i)) H) := by
 intro pins s σ H xs us Q I r h
 obtain ⟨i, j, rfl, q⟩ := h
 obtain ⟨u, w', rfl, ⟨t, rfl⟩, ⟨t', rfl⟩⟩ := vals2 r
 refine max_two_ints (I.ok.hd hc) fun h' tk k => ⟨_, H, I.kept k, ?_, q⟩
 by_cases hj : j > i
 . rw [if_pos hj, if_pos hj]; exact ⟨_, rfl⟩
 . rw [if_neg hj, if_neg hj]; exact ⟨_, rfl⟩
theorem call_min2 (hc : X.calm = true) : CallR X (.builtin "min") (fun xs H Q => ∃ i j, xs = [.int i, .int j] /\ Q (.int (if j < i then j else i)) H) := by
 intro pins s σ H xs us Q I r h
 obtain ⟨i, j, rfl, q⟩ := h
 obtain ⟨u, w', rfl, ⟨t, rfl⟩, ⟨t', rfl⟩⟩ := vals2 r
 refine min_two_ints (I.ok.hd hc) fun h' tk k => ⟨_, H, I.kept k, ?_, q⟩
 by_cases hj : j < i
 . rw [if_pos hj, if_pos hj]; exact ⟨_, rfl⟩
 . rw [if_neg hj, if_neg hj]; exact ⟨_, rfl⟩
theorem call_int1 : CallR X (.type "int") (fun xs H Q => (∃ i, xs = [.int i] /\ Q (.int i) H) ∨ ∃ k, xs = [.bl k] /\ Q (.int (if k then 1 else 0)) H) := by
 intro pins s σ H xs us Q I r h
 rcases h with ⟨i, rfl, q⟩ | ⟨k, rfl, q⟩
 . obtain ⟨u, rfl, t, rfl⟩ := vals1 r
   exact call_int_int ⟨.int i, H, I, ⟨_, rfl⟩, q⟩
 . obtain ⟨u, rfl, r1⟩ := vals1 r
   cases r1
   exact call_int_bool ⟨.int (if k then 1 else 0), H, I.tok _, ⟨_, rfl⟩, q⟩
end
end L2
namespace L2
open PySem PySem.Spec PyProof.Rows
structure ObjM (h : Heap) (x dx C : Addr) (mA : Str -> Option Value) : Prop where
 obj : h.get? x = some (PySem.W.instObj C dx)
 ns : h.Ns1 dx mA
 ne : dx ≠ x
theorem lookIn_ns {h : Heap} {dx : Addr} {mA : Str -> Option Value} (n : h.Ns1 dx mA) : ∃ od, h.get? dx = some od /\ ∀ name, PySem.W.lookIn name od = some (mA name) := by
 obtain ⟨o, es, ep, ho, hd, hk, _, hm⟩ := n
 refine ⟨o, ho, fun name => ?_⟩
 have e := hm name
 unfold nsFind findBy at e
 rw [← Array.find?_toList] at e
 unfold PySem.W.lookIn
 rw [hd]
 dsimp only
 split
 . rename_i y q
   rw [q] at e
   exact congrArg some e
 . rename_i q
   rw [q] at e
   have a : es.toList.any (·.refKey) = false := by
     rw [List.any_eq_false]
     intro y hy
     obtain ⟨z, t, hkey⟩ := hk y (Array.mem_toList_iff.mp hy)
     simp [DictEntry.refKey, hkey]
   have a' : ¬ es.toList.any (·.refKey) = true := by rw [a]; exact Bool.false_ne_true
   rw [if_neg a']
   exact congrArg some e
theorem ObjM.look {h : Heap} {x dx C : Addr} {mA : Str -> Option Value} (I : ObjM h x dx C mA) : ∃ od, PySem.W.InstAt h x (PySem.W.instObj C dx) C (some od) /\ ∀ name, PySem.W.lookIn name od = some (mA name) :=
 let ⟨od, ho, hl⟩ := lookIn_ns I.ns
 ⟨od, ⟨I.obj, rfl, rfl, ho⟩, hl⟩
section
variable {prog : Program} {w : World} {A : Around} {E : Value -> Shared -> Prop} {s : Shared} {K : PySem.W.Frag} {x dx C f : Addr} {mA : Str -> Option Value} {name : Str} {v : Value}
theorem get_map {expr : Bool} {Q : Value -> Shared -> Prop} (X : K.In s.heap) (I : ObjM s.heap x dx C mA) (hg : PySem.W.plainGet K C name = true) (hh : PySem.W.hasDictIn K C = true)
   (ha : PySem.W.findIn K (.ref C) name = some none) (hv : mA name = some v) (hv' : PySem.W.handedIn v = true) (h : Q v { s with toks := s.toks + 1 }) :
   wpAny (model prog w) A (getAttr (.ref x) name expr) Q E s := by
 obtain ⟨od, J, hl⟩ := I.look
 exact PySem.W.get_value X J (PySem.W.plainGet_of hg).1 (PySem.W.findObj_own hh ha rfl (by rw [hl, hv])) hv' h
theorem get_meth {pl : Sem Bool} {Q : Value × List Value -> Shared -> Prop} (X : K.In s.heap) (I : ObjM s.heap x dx C mA) (hg : PySem.W.plainGet K C name = true)
   (hf : PySem.W.findIn K (.ref C) name = some (some (.ref f))) (ht : PySem.W.isFn K (.ref f) = true) (hv : mA name = none) (h : Q (.ref f, [.ref x]) s) :
   wpAny (model prog w) A (getMethod (.ref x) name pl) Q E s := by
 obtain ⟨od, J, hl⟩ := I.look
 exact PySem.W.method_fn X J (PySem.W.plainGet_of hg).1 (PySem.W.plainGet_of hg).2 hf (beq_iff_eq.mp ht) (by show (PySem.W.lookIn name od).map (·.isSome) = some false; rw [hl, hv]; rfl) h
theorem set_map {ns : List Str} {Q : Unit -> Shared -> Prop} (X : K.In s.heap) (I : ObjM s.heap x dx C mA)
   (hs : PySem.W.findIn K (.ref C) "__setattr__" = some (some (.builtin "object.__setattr__"))) (hp : PySem.W.plainOver K C = true) (ht : PySem.W.takerIn K C name = some none) (hh : PySem.W.hasDictIn K C = true)
   (hw : PySem.Within mA ns) (hsz : ns.length <= sizeLine)
   (h : ∀ h', ObjM h' x dx C (fun y => if y = name then some v else mA y) -> Heap.SameBut dx s.heap h' -> Q () { s with heap := h', toks := s.toks + 2 }) :
   wpAny (model prog w) A (setAttr (.ref x) name v) Q E s := by
 obtain ⟨od, J, hl⟩ := I.look
 refine PySem.W.set_plain X J hs (PySem.W.osa_open (s := { s with toks := s.toks + 1 }) (r := none) X J hp ht fun b => ?_)
 obtain ⟨cd, hc, hd'⟩ := PySem.W.any_some hh
 have hx : s.heap.get? x = some ⟨.ref C, some dx, .plain, #[]⟩ := I.obj
 refine wpAny_bind (wpAny_pure (wpAny_bind (wpAny_bind (wpAny_loadPart hx (wpAny_bind (PySem.W.Looks.here (s := { s with toks := s.toks + 1 }) (PySem.W.looks_clsIn X hc) ?_))))))
 rw [hd']
 refine wpAny_pure (a := some dx) (wpAny_bind (wpAny_pure (wpAny_bind ?_)))
 refine wpAny_nsSet1 (s := { s with toks := s.toks + 1 }) I.ns fun h' hn2 hs2 => ?_
 obtain ⟨oD, esD, epD, hoD, hdD, hcD⟩ := hn2.count (PySem.Within.cons name v hw)
 refine wpAny_bind (wpAny_lookBehind hoD (by rw [hdD]; exact pastItsLine_dict (Nat.le_trans hcD (by rw [List.length_cons]; omega))) ?_)
 exact wpAny_pure (h _ ⟨(hs2.2 _ (Ne.symm I.ne)).trans I.obj, hn2, I.ne⟩ hs2)
theorem make_map {R : Result -> Shared -> Prop} {vs : List Value} {kw : List (Str × Value)} (X : K.In s.heap) (hm : PySem.W.makesIn K C = true)
   (hi : PySem.W.findIn K (.ref C) "__init__" = some (some (.ref f))) (hf : PySem.W.typeIn K (.ref f) = some (.type "function"))
   (h : codeAny (model prog w) (A.under (.builtin "type.__call__" ⟨.ref C :: vs, kw⟩)) (.call (.ref f) ⟨.ref (s.heap.objs.size + 1) :: vs, kw⟩) (PySem.W.InitBack (s.heap.objs.size + 1) R)
     { s with heap := (s.heap.push PySem.W.emptyDict).push (PySem.W.instObj C s.heap.objs.size) }) :
   codeAny (model prog w) A (.call (.ref C) ⟨vs, kw⟩) R s := by
 obtain ⟨hh, g, d, t, os⟩ := s
 exact PySem.W.make_core (PySem.W.makes_of X hm) (PySem.W.looks_findIn X hi) (fun self => PySem.W.bind_fn X self hf) (.inl rfl) h
end
def putF (f : Str) (v : V) : List (Str × V) -> List (Str × V)
 | [] => [(f, v)]
 | (g, x) :: r => if g = f then (g, v) :: r else (g, x) :: putF f v r
theorem lookup_putF (f g : Str) (v : V) : ∀ fs : List (Str × V), (putF f v fs).lookup g = if g = f then some v else fs.lookup g
 | [] => by
   show List.lookup g [(f, v)] = _
   by_cases h : g = f
   . have hb : (g == f) = true := beq_iff_eq.mpr h
     simp only [List.lookup, hb, if_pos h]
   . have hb : (g == f) = false := beq_eq_false_iff_ne.mpr h
     simp only [List.lookup, hb, if_neg h]
 | (k, x) :: r => by
   have ih := lookup_putF f g v r
   rw [show putF f v ((k, x) :: r) = (if k = f then (k, v) :: r else (k, x) :: putF f v r) from rfl]
   by_cases hk : k = f
   . rw [if_pos hk]
     by_cases h : g = k
     . have hb : (g == k) = true := beq_iff_eq.mpr h
       simp only [List.lookup, hb, if_pos (h.trans hk)]
     . have hb : (g == k) = false := beq_eq_false_iff_ne.mpr h
       simp only [List.lookup, hb, if_neg (fun e : g = f => h (e.trans hk.symm))]
   . rw [if_neg hk]
     by_cases h : g = k
     . have hb : (g == k) = true := beq_iff_eq.mpr h
       simp only [List.lookup, hb, if_neg (fun e : g = f => hk (h.symm.trans e))]
     . have hb : (g == k) = false := beq_eq_false_iff_ne.mpr h
       simp only [List.lookup, hb]
       exact ih
theorem keys_putF (f : Str) (v : V) : ∀ fs : List (Str × V), f ∈ (putF f v fs).map (·.1) /\ ∀ g, g ∈ fs.map (·.1) -> g ∈ (putF f v fs).map (·.1)
 | [] => ⟨by simp [putF], fun g h => by simp at h⟩
 | (k, x) :: r => by
   obtain ⟨i1, i2⟩ := keys_putF f v r
   rw [show putF f v ((k, x) :: r) = (if k = f then (k, v) :: r else (k, x) :: putF f v r) from rfl]
   by_cases hk : k = f
   . rw [if_pos hk]
     subst hk
     exact ⟨by simp, fun g h => by simpa using h⟩
   . rw [if_neg hk]
     refine ⟨?_, fun g h => ?_⟩
     . rw [List.map_cons]
       exact List.mem_cons_of_mem _ i1
     . rw [List.map_cons] at h ⊢
       rcases List.mem_cons.mp h with e | e
       . exact List.mem_cons.mpr (.inl e)
       . exact List.mem_cons_of_mem _ (i2 g e)
theorem length_putF (f : Str) (v : V) : ∀ fs : List (Str × V), (putF f v fs).length <= fs.length + 1
 | [] => by simp [putF]
 | (k, x) :: r => by
   have ih := length_putF f v r
   rw [show putF f v ((k, x) :: r) = (if k = f then (k, v) :: r else (k, x) :: putF f v r) from rfl]
   by_cases hk : k = f
   . rw [if_pos hk, List.length_cons, List.length_cons]; omega
   . rw [if_neg hk, List.length_cons, List.length_cons]; omega
theorem RelO.some_of {v : V} {o : Option Value} (r : RelO (some v) o) : ∃ u, o = some u /\ RelV v u := by
 cases o with
 | none => exact (show False from r).elim
 | some u => exact ⟨u, rfl, r⟩
theorem RelO.none_of {o : Option Value} (r : RelO none o) : o = none := by
 cases o with
 | none => rfl
 | some u => exact (show False from r).elim
theorem handed_of {v : V} {u : Value} (r : RelV v u) : PySem.W.handedIn u = true := by
 cases v with
 | non => cases (show u = Value.none from r); rfl
 | bl b => cases (show u = Value.bool b from r); rfl
 | int i => obtain ⟨t, e⟩ := (show ∃ t, u = Value.int i t from r); cases e; rfl
 | str x => obtain ⟨t, e⟩ := (show ∃ t, u = Value.str x t from r); cases e; rfl
 | byt b => obtain ⟨t, e⟩ := (show ∃ t, u = Value.bytes b t from r); cases e; rfl
 | flt b => obtain ⟨t, e⟩ := (show ∃ t, u = Value.float b t from r); cases e; rfl
 | ref a => cases (show u = Value.ref a from r); rfl
 | ty n => cases (show u = Value.type n from r); rfl
section
variable {P : Program} {w : World} {H H' : Hp} {h h' : Heap} {a C dx : Addr} {fs fs' : List (Str × V)}
theorem ins_get (hok : HOk P w H h) (e : H a = some (.ins C dx fs)) : ∃ mA, ObjM h a dx C mA /\ (∀ f, RelO (fs.lookup f) (mA f)) /\ PySem.Within mA (fs.map (·.1)) /\ fs.length <= 1000 /\ H dx = some (.own a) := by
 obtain ⟨d, z, ne, ob, mA, n, r, q⟩ := (show ObjOk P w H h a (.ins C dx fs) from hok a _ e)
 exact ⟨mA, ⟨ob, n, ne⟩, r, q, z, d⟩
end
structure Cls (K : PySem.W.Frag) (C : Addr) : Prop where
 pg : PySem.W.plainGet K C Str.empty = true
 hd : PySem.W.hasDictIn K C = true
 po : PySem.W.plainOver K C = true
 sa : PySem.W.findIn K (.ref C) "__setattr__" = some (some (.builtin "object.__setattr__"))
theorem Cls.get {K : PySem.W.Frag} {C : Addr} (c : Cls K C) (f : Str) : PySem.W.plainGet K C f = true := c.pg
def NoAttr (K : PySem.W.Frag) (C : Addr) (f : Str) : Prop := PySem.W.findIn K (.ref C) f = some none
theorem NoAttr.taker {K : PySem.W.Frag} {C : Addr} {f : Str} (n : NoAttr K C f) : PySem.W.takerIn K C f = some none := by
 unfold PySem.W.takerIn
 rw [show PySem.W.findIn K (.ref C) f = some none from n]
 rfl
structure Con (K : PySem.W.Frag) (C : Addr) (f : Str) (v : V) (u : Value) : Prop where
 at_ : PySem.W.findIn K (.ref C) f = some (some u)
 rel : RelV v u
 get : PySem.W.specialIn K u "__get__" = some none
 cp : PySem.W.copiedNames.contains f = false
structure Meth (K : PySem.W.Frag) (C : Addr) (m : Str) (f : Addr) : Prop where
 at_ : PySem.W.findIn K (.ref C) m = some (some (.ref f))
 fn : PySem.W.isFn K (.ref f) = true
 kp : PySem.W.keepIn K (.ref f) = true
section
variable {X : Cx} {pins : List (Addr × Obj)} {σ : St} {H : Hp} {s : Shared} {a C dx : Addr} {fs : List (Str × V)} {f : Str} {v : V} {A : Around} {E : Value -> Shared -> Prop}
theorem getattr_ok {b : Bool} {Q : Value -> Shared -> Prop} (I : Inv X pins σ H s) (e : H a = some (.ins C dx fs)) (c : Cls X.K C) (n : NoAttr X.K C f) (l : fs.lookup f = some v)
   (h : ∀ u s', Inv X pins σ H s' -> RelV v u -> Q u s') : wpAny (model X.prog X.w) A (getAttr (.ref a) f b) Q E s := by
 obtain ⟨mA, O, r, _, _, _⟩ := ins_get I.hok e
 obtain ⟨u, hu, ru⟩ := RelO.some_of (v := v) (o := mA f) (by rw [← l]; exact r f)
 exact get_map I.kIn O (c.get f) c.hd n hu (handed_of ru) (h u _ (I.tok _) ru)
theorem qci {m : Str} {g : Addr} {pl : Sem Bool} {Q : Value × List Value -> Shared -> Prop} (I : Inv X pins σ H s) (e : H a = some (.ins C dx fs)) (c : Cls X.K C) (k : Meth X.K C m g) (l : fs.lookup m = none)
   (h : Q (.ref g, [.ref a]) s) : wpAny (model X.prog X.w) A (getMethod (.ref a) m pl) Q E s := by
 obtain ⟨mA, O, r, _, _, _⟩ := ins_get I.hok e
 have hn : mA m = none := RelO.none_of (by rw [← l]; exact r m)
 exact get_meth I.kIn O (c.get m) k.at_ k.fn hn h
theorem setattr_ok {y : V} {u : Value} {Q : Unit -> Shared -> Prop} (I : Inv X pins σ H s) (e : H a = some (.ins C dx fs)) (c : Cls X.K C) (n : NoAttr X.K C f) (hl : fs.length < 1000) (ry : RelV y u)
   (h : ∀ s', Inv X pins σ (upd H a (.ins C dx (putF f y fs))) s' -> Q () s') : wpAny (model X.prog X.w) A (setAttr (.ref a) f u) Q E s := by
 obtain ⟨mA, O, r, wi, _, ho⟩ := ins_get I.hok e
 have hz : (fs.map (·.1)).length <= sizeLine := by rw [List.length_map, sizeLine_eq]; omega
 refine set_map I.kIn O c.sa c.po n.taker c.hd wi hz fun h' O' sb => h _ ?_
 have hd : ∃ o, h'.get? dx = some o := let ⟨o, _, _, e', _⟩ := O'.ns; ⟨o, e'⟩
 refine I.write (x := a) (e := dx) (by rw [e]; exact True.intro) (.inr ho) (fun b q hb z => (sb.2 b hb).trans z) hd ?_
 refine ⟨by rw [qah O.ne]; exact ho, ?_, O.ne, O'.obj, _, O'.ns, fun g => ?_, fun g hg => ?_⟩
 . have := length_putF f y fs; omega
 . show RelO ((putF f y fs).lookup g) (if g = f then some u else mA g)
   rw [lookup_putF]
   by_cases q : g = f
   . rw [if_pos q, if_pos q]; exact ry
   . rw [if_neg q, if_neg q]; exact r g
 . by_cases q : g = f
   . rw [q]; exact (keys_putF f y fs).1
   . refine (keys_putF f y fs).2 g (wi g fun z => hg ?_)
     show (if g = f then some u else mA g) = none
     rw [if_neg q]; exact z
theorem Inv.made (I : Inv X pins σ H s) : Inv X pins σ (upd (upd H s.heap.objs.size (.own (s.heap.objs.size + 1))) (s.heap.objs.size + 1) (.ins C s.heap.objs.size []))
   { s with heap := (s.heap.push PySem.W.emptyDict).push (PySem.W.instObj C s.heap.objs.size) } := by
 have e1 : (s.heap.push PySem.W.emptyDict).get? s.heap.objs.size = some PySem.W.emptyDict := Heap.get?_push_size s.heap rfl
 have e2 : ((s.heap.push PySem.W.emptyDict).push (PySem.W.instObj C s.heap.objs.size)).get? (s.heap.objs.size + 1) = some (PySem.W.instObj C s.heap.objs.size) := by
   have := Heap.get?_push_size (s.heap.push PySem.W.emptyDict) (o := PySem.W.instObj C s.heap.objs.size) rfl
   rwa [Heap.size_push] at this
 have e3 : (s.heap.push PySem.W.emptyDict).Ns s.heap.objs.size (fun _ => none) := ⟨PySem.W.emptyDict, #[], _, e1, rfl, (fun e he => absurd he (by simp)), fun _ => rfl⟩
 have I1 := I.laid (a := s.heap.objs.size) (o := .own (s.heap.objs.size + 1)) (h' := s.heap.push PySem.W.emptyDict) (t' := s.toks) (fun b u q => Heap.get?_push_of_some _ q) (Nat.le_refl _) ⟨_, e1⟩
 refine I1.laid (a := s.heap.objs.size + 1) (o := .ins C s.heap.objs.size []) (t' := s.toks) (fun b u q => Heap.get?_push_of_some _ q) (Nat.le_of_eq (Heap.size_push _ _)) ?_
 have ne : s.heap.objs.size ≠ s.heap.objs.size + 1 := Nat.ne_of_lt (Nat.lt_succ_self _)
 refine ⟨by rw [qah ne, qab], Nat.zero_le _, ne, e2, fun _ => none, (Heap.Ns1.of_empty e3).at fun o q => Heap.get?_push_of_some _ q, fun _ => True.intro, fun y hy => absurd rfl hy⟩
theorem attr_of {prog : Program} {w : World} {env : Env} {e : Expr} {f : Str} {pos : Pos} {s : Shared} {Q : Value -> Shared -> Prop} (hb : attributeBase e f env (eval e env) = eval e env)
   (h : wpAny (model prog w) A (eval e env) (fun o s₁ => wpAny (model prog w) A (getAttr o f true) Q E s₁) E s) : wpAny (model prog w) A (eval (.Attribute e f pos) env) Q E s :=
 Attribute_any_ h (by rw [arm_eval_Attribute, hb])
end
def tFld (K : PySem.W.Frag) (ta : TE) (f : Str) : TE := fun σ H Q => ta σ H fun x H1 => ∃ a C dx fs v, x = .ref a /\ H1 a = some (.ins C dx fs) /\ Cls K C /\ NoAttr K C f /\ fs.lookup f = some v /\ Q v H1
def sFld (K : PySem.W.Frag) (ta tv : TE) (f : Str) : TS := fun D σ H => tv σ H fun y H1 => ta σ H1 fun x H2 => ∃ a C dx fs, x = .ref a /\ H2 a = some (.ins C dx fs) /\ Cls K C /\ NoAttr K C f /\ fs.length < 1000 ∧
 D.nx σ (upd H2 a (.ins C dx (putF f y fs)))
section
variable {X : Cx} {o e value : Expr} {f : Str} {pos pos' tpos : Pos} {ta tv : TE}
theorem je_fld (he : JE X e ta) (hb : attributeBase e f X.env (eval e X.env) = eval e X.env) : JE X (.Attribute e f pos) (tFld X.K ta f) := .of (by
 have he := he.to
 intro pins s σ H Q I h
 refine attr_of hb (thn (he pins s σ H _ I h) fun u s1 ⟨x, H1, I1, rx, a, C, dx, fs, v, ex, ea, c, n, l, q⟩ => ?_)
 subst ex
 obtain rfl : u = Value.ref a := rx
 exact getattr_ok I1 ea c n l fun u' s2 I2 ru => ⟨v, H1, I2, ru, q⟩)
theorem js_fld (ha : JE X o ta) (hv : JE X value tv) (hs : swapsWith value (some (.Attribute o f pos')) pos.line X.env = pure false) : JS X (.Assign [.Attribute o f pos'] value pos) (sFld X.K ta tv f) := .of (by
 have ha := ha.to
 have hv := hv.to
 intro pins s σ H D I h
 refine plainObj_wpAny_Assign_Attribute (thn (hv pins s σ H _ I h) fun u s1 ⟨y, H1, I1, ry, q⟩ => thn (ha pins s1 σ H1 _ I1 q) fun ov s2 ⟨x, H2, I2, rx, a, C, dx, fs, ex, ea, c, n, l, q2⟩ => ?_) hs
 subst ex
 obtain rfl : ov = Value.ref a := rx
 exact setattr_ok I2 ea c n l ry fun s3 I3 => ⟨σ, _, I3, q2⟩)
end
section
variable {X : Cx} {pins : List (Addr × Obj)} {σ : St} {H : Hp} {s : Shared} {A : Around} {E : Value -> Shared -> Prop} {Q : Value -> Shared -> Prop} {c : Value} {b : Bool}
inductive TyOf (K : PySem.W.Frag) (H : Hp) : V -> Value -> Prop where
 | non : TyOf K H .non (.type "NoneType")
 | bl (x : Bool) : TyOf K H (.bl x) (.type "bool")
 | int (i : Int) : TyOf K H (.int i) (.type "int")
 | str (x : Str) : TyOf K H (.str x) (.type "str")
 | flt (x : UInt64) : TyOf K H (.flt x) (.type "float")
 | lst {a : Addr} {xs : List V} (e : H a = some (.lst xs)) : TyOf K H (.ref a) (.type "list")
 | frz {a : Addr} {o : Obj} {xs : List V} (e : H a = some (.frz o (.lst xs))) : TyOf K H (.ref a) (.type "list")
 | tup {a : Addr} {xs : List V} (e : H a = some (.tup xs)) : TyOf K H (.ref a) (.type "tuple")
 | dK {a : Addr} {kvs : List (Key × V)} (e : H a = some (.dK kvs)) : TyOf K H (.ref a) (.type "dict")
 | dT {a : Addr} {kvs : List (List Key × V)} (e : H a = some (.dT kvs)) : TyOf K H (.ref a) (.type "dict")
 | ins {a C dx : Addr} {fs : List (Str × V)} (e : H a = some (.ins C dx fs)) (cl : Cls K C) (ha : PySem.W.findIn K (.ref C) "__class__" = some (some (.builtin "object.__class__")))
     (hn : PySem.W.specialIn K (.builtin "object.__class__") "__get__" = some (some (.builtin "getset_descriptor.__get__"))) (htk : PySem.W.takesIn K (.builtin "object.__class__") = some true)
     (hm : PySem.W.mroIn K C (.type "object") = some true) : TyOf K H (.ref a) (.ref C)
theorem isinst_ok {x : V} {u t : Value} (I : Inv X pins σ H s) (rx : RelV x u) (ty : TyOf X.K H x t) (e : PySem.W.kitOne X.K t c = some b) (h : ∀ tk, Q (.bool b) { s with toks := tk }) :
   wpAny (model X.prog X.w) A (call (.builtin "isinstance") [u, c]) Q E s := by
 cases ty with
 | non => cases (show u = Value.none from rx); exact PySem.W.kia_one PySem.W.kitx_none I.kIn True.intro e (fun z => nomatch z) h
 | bl y => cases (show u = Value.bool y from rx); exact PySem.W.kia_one PySem.W.kitx_bool I.kIn True.intro e (fun z => nomatch z) h
 | int i => obtain ⟨t, q⟩ := (show ∃ t, u = Value.int i t from rx); cases q; exact PySem.W.kia_one PySem.W.kitx_int I.kIn True.intro e (fun z => nomatch z) h
 | str y => obtain ⟨t, q⟩ := (show ∃ t, u = Value.str y t from rx); cases q; exact PySem.W.kia_one PySem.W.kitx_str I.kIn True.intro e (fun z => nomatch z) h
 | flt y => obtain ⟨t, q⟩ := (show ∃ t, u = Value.float y t from rx); cases q; exact PySem.W.kia_one PySem.W.kitx_float I.kIn True.intro e (fun z => nomatch z) h
 | @lst a xs ea =>
   cases (show u = Value.ref a from rx)
   obtain ⟨_, _, n, _, h1⟩ := (show ObjOk X.prog X.w H s.heap a (.lst xs) from I.hok a _ ea)
   exact PySem.W.kia_one PySem.W.kitx_list I.kIn ⟨_, h1, rfl⟩ e (fun z => nomatch z) h
 | @frz a ob xs ea =>
   cases (show u = Value.ref a from rx)
   obtain ⟨_, _, _, n, _, h1⟩ := (show ObjOk X.prog X.w H s.heap a (.frz ob (.lst xs)) from I.hok a _ ea)
   exact PySem.W.kia_one PySem.W.kitx_list I.kIn ⟨_, h1, rfl⟩ e (fun z => nomatch z) h
 | @tup a xs ea =>
   cases (show u = Value.ref a from rx)
   obtain ⟨_, _, _, p⟩ := (show ObjOk X.prog X.w H s.heap a (.tup xs) from I.hok a _ ea)
   obtain ⟨o, h1, h2, _⟩ := p
   exact PySem.W.kia_one PySem.W.kitx_tuple I.kIn ⟨o, h1, h2⟩ e (fun z => nomatch z) h
 | @dK a kvs ea =>
   cases (show u = Value.ref a from rx)
   obtain ⟨_, _, vs, _, p⟩ := (show ObjOk X.prog X.w H s.heap a (.dK kvs) from I.hok a _ ea)
   obtain ⟨o, es, ep, h1, h2, _⟩ := p
   exact PySem.W.kia_one PySem.W.kitx_dict I.kIn ⟨o, h1, h2.1⟩ e (fun z => nomatch z) h
 | @dT a kvs ea =>
   cases (show u = Value.ref a from rx)
   obtain ⟨_, _, xs, _, o, es, ep, h1, h2, _⟩ := (show ObjOk X.prog X.w H s.heap a (.dT kvs) from I.hok a _ ea)
   exact PySem.W.kia_one PySem.W.kitx_dict I.kIn ⟨o, h1, h2.1⟩ e (fun z => nomatch z) h
 | @ins a C dx fs ea cl ha hn htk hm =>
   cases (show u = Value.ref a from rx)
   obtain ⟨mA, O, _⟩ := ins_get I.hok ea
   obtain ⟨od, J, _⟩ := O.look
   exact PySem.W.kia_one (PySem.W.kitx_own (cl.get _) cl.hd ha hn htk hm) I.kIn J e (fun z => nomatch z) h
end
end L2
namespace L2
open PySem PySem.Spec PyProof.Rows
structure Room (k : Nat) (A : Around) : Prop where
 hd : A.handled = none
 dp : A.depth + 3 * k + 5 < recursionLimit
 un : A.units + 16 * k + 200 < cLine
 gd : A.guards = some []
theorem Room.mono {j k : Nat} {A : Around} (r : Room k A) (h : j <= k) : Room j A := ⟨r.hd, by have := r.dp; omega, by have := r.un; omega, r.gd⟩
theorem Room.deeper {k : Nat} {A : Around} (r : Room (k + 1) A) (env : Env) : Room k (A.deeper env) :=
 ⟨r.hd, by have := r.dp; show A.depth + 1 + 3 * k + 5 < _; omega, by have := r.un; show A.units + 3 + 16 * k + 200 < _; omega, r.gd⟩
theorem make_depth {A : Around} {C : Addr} {us : List Value} {kw : List (Str × Value)} : (A.under (.builtin "type.__call__" ⟨.ref C :: us, kw⟩)).depth = A.depth + 1 := by
 first | rfl | simp [Around.under, Code.weight, Code.isCreation, Code.isGuard, Code.isCaller, Code.frames, Code.isFrame, guardIds]
theorem make_units {A : Around} {C : Addr} {us : List Value} {kw : List (Str × Value)} : (A.under (.builtin "type.__call__" ⟨.ref C :: us, kw⟩)).units = A.units + 1 := by
 first | rfl | simp [Around.under, Code.cUnits, Code.frames, Code.isFrame]
theorem Room.make {k : Nat} {A : Around} (r : Room (k + 1) A) (C : Addr) (us : List Value) (kw : List (Str × Value)) : Room k (A.under (.builtin "type.__call__" ⟨.ref C :: us, kw⟩)) :=
 ⟨r.hd, by have := r.dp; rw [make_depth]; omega, by have := r.un; rw [make_units]; omega, (by have := r.gd; first | exact this | simpa [Around.under, Code.isGuard, guardIds] using this)⟩
theorem Room.depth {k : Nat} {A : Around} (r : Room k A) : A.depth < recursionLimit := by have := r.dp; omega
theorem Room.units {k : Nat} {A : Around} (r : Room k A) : A.units + 64 < cLine := by have := r.un; omega
def tNil : TA := fun _ H Q => Q [] H
def tCons (ta : TE) (tr : TA) : TA := fun σ H Q => ta σ H fun x H1 => tr σ H1 fun xs H2 => Q (x :: xs) H2
section
variable {X : Cx} {e : Expr} {es : List Expr} {te : TE} {t : TA} {pos : Pos}
theorem qad  : JA X [] tNil := .of (by
 exact fun _ _ _ _ H Q I h => Calls.spliced_nil ⟨[], H, I, .nil, h⟩)
theorem qaa (ha : JE X e te) (hr : JA X es t) (hs : starEach (e :: es) X.env = (false, eval e X.env) :: starEach es X.env := by rfl) : JA X (e :: es) (tCons te t) := .of (by
 have ha := ha.to
 have hr := hr.to
 intro pos pins s σ H Q I h
 rw [hs]
 show wpAny _ _ (spliced ((false, eval e X.env) :: backTo pos (starEach es X.env))) _ _ s
 refine Calls.spliced_cons (thn (ha pins s σ H _ I h) fun u s1 ⟨x, H1, I1, r1, q1⟩ => ?_)
 exact thn (hr pos pins s1 σ H1 _ I1 q1) fun us s2 ⟨xs, H2, I2, r2, q2⟩ => ⟨x :: xs, H2, I2, .cons r1 r2, q2⟩)
def tTup (t : TA) : TE := fun σ H Q => t σ H fun xs H1 => xs.length <= sizeLine /\ ∀ p, H1 p = none -> Q (.ref p) (upd H1 p (.tup xs))
def tLst (t : TA) : TE := fun σ H Q => t σ H fun xs H1 => xs.length <= sizeLine /\ ∀ p, H1 p = none -> Q (.ref p) (upd H1 p (.lst xs))
theorem qcb {x1} (h : JA X es t) : JE X (.Tuple es x1 pos) (tTup t) := .of (by
 have h := h.to
 intro pins s σ H Q I hq
 refine wpAny_Tuple_spliced (thn (h pos pins s σ H _ I hq) fun us s1 ⟨xs, H1, I1, r, z, q⟩ => ⟨by rw [← r.length]; exact z, ?_⟩)
 have hf : H1 s1.heap.objs.size = none := I1.hok.fresh (Nat.le_refl _)
 refine ⟨.ref s1.heap.objs.size, upd H1 s1.heap.objs.size (.tup xs), I1.laid (t' := s1.toks) (fun b u e => Heap.get?_push_of_some _ e) (Nat.le_refl _) ?_, rfl, q _ hf⟩
 exact ⟨z, us, r, ⟨_, Heap.get?_push_size _ rfl, rfl, _, rfl⟩⟩)
theorem qck (h : JA X es t) : JE X (.List es pos) (tLst t) := .of (by
 have h := h.to
 intro pins s σ H Q I hq
 refine wpAny_List_spliced (thn (h pos pins s σ H _ I hq) fun us s1 ⟨xs, H1, I1, r, z, q⟩ => ⟨by rw [← r.length]; exact z, ?_⟩)
 have hf : H1 s1.heap.objs.size = none := I1.hok.fresh (Nat.le_refl _)
 refine ⟨.ref s1.heap.objs.size, upd H1 s1.heap.objs.size (.lst xs), I1.laid (t' := s1.toks) (fun b u e => Heap.get?_push_of_some _ e) (Nat.le_refl _) ?_, rfl, q _ hf⟩
 exact ⟨z, us, 0, r, Heap.get?_push_size _ rfl⟩)
end
abbrev Sp := List V -> Hp -> VK -> XK -> Prop
abbrev CXT := List Env -> Hp -> Shared -> XK -> Value -> Shared -> Prop
structure Env0 (P : Program) (w : World) (K : PySem.W.Frag) (mg : Str -> Option Value) (base : Heap) (A : Around) (outer : List Env) (s : Shared) (H : Hp) : Prop where
 frames : A.frames = some outer
 mod : Mod K mg base
 bs : ∀ b o, base.get? b = some o -> s.heap.get? b = some o /\ H b = none
 bsz : base.objs.size <= s.heap.objs.size
 funs : s.heap.FunFrames base outer
 frf : ∀ b ∈ frs outer, H b = none
 hok : HOk P w H s.heap
 bare : AllBare s.gens
def CE (outer : List Env) (P : Program) (w : World) (H : Hp) (s : Shared) (Q : VK) (u : Value) (s' : Shared) : Prop :=
 ∃ v H', s'.os = s.os /\ AllBare s'.gens /\ Un (frs outer) [] H H' s.heap s'.heap /\ HOk P w H' s'.heap /\ RelV v u /\ Q v H'
def CR (CX : CXT) (outer : List Env) (P : Program) (w : World) (H : Hp) (s : Shared) (Q : VK) (E : XK) (r : Result) (s' : Shared) : Prop :=
 match r with
 | .ok (.ret u) => CE outer P w H s Q u s'
 | .ok _ => False
 | .error e => CX outer H s E e s'
structure FnOk (P : Program) (w : World) (K : PySem.W.Frag) (mg : Str -> Option Value) (base : Heap) (CX : CXT) (k : Nat) (f : Addr) (fd : FuncData) (ps : List Str) (sp : Sp) : Prop where
 len : ∀ vs H Q E, sp vs H Q E -> vs.length = ps.length
 run : ∀ (A : Around) (outer : List Env) (s : Shared) (H : Hp) (args : Args) (us : List Value) (vs : List V) (Q : VK) (E : XK), Room k A -> Env0 P w K mg base A outer s H -> BindsTo s fd args (ps.zip us) -> Vals vs us -> sp vs H Q E →
   codeAny (model P w) A (.call (.ref f) args) (CR CX outer P w H s Q E) s
theorem Env0.make {P : Program} {w : World} {K : PySem.W.Frag} {mg : Str -> Option Value} {base : Heap} {A : Around} {outer : List Env} {s : Shared} {H : Hp} (e : Env0 P w K mg base A outer s H) (C : Addr) (us : List Value) (kw : List (Str × Value)) :
   Env0 P w K mg base (A.under (.builtin "type.__call__" ⟨.ref C :: us, kw⟩)) outer s H := ⟨by first | exact e.frames | (simpa [Around.under, Code.envs, Code.isFrame, pushEnvs] using e.frames), e.mod, e.bs, e.bsz, e.funs, e.frf, e.hok, e.bare⟩
section
variable {X : Cx} {pins : List (Addr × Obj)} {σ : St} {H : Hp} {s s' : Shared}
theorem Inv.env0 (I : Inv X pins σ H s) : Env0 X.prog X.w X.K X.mg X.base X.A X.stack s H :=
 ⟨I.ok.frames, I.ok.mod, I.bs, Nat.le_trans I.ok.bsz I.sz, I.stack, I.stkFree, I.hok, I.bare⟩
theorem Inv.after {Q : VK} {u : Value} (I : Inv X pins σ H s) (h : CE X.stack X.prog X.w H s Q u s') : EP X pins σ Q u s' := by
 obtain ⟨v, H', os, bare, un, hok, r, q⟩ := h
 obtain ⟨hh, g, d, t, os'⟩ := s'
 obtain rfl : os' = s.os := os
 exact ⟨v, H', I.call (h' := hh) (g' := g) (d' := d) (t' := t) (ch := []) un hok bare (fun b z => absurd z (by simp)), r, q⟩
end
def tCall (sp : Sp) (dvs : List V) (E : XK) (t : TA) : TE := fun σ H Q => t σ H fun vs H1 => sp (vs ++ dvs) H1 Q E
def tMeth (C : Addr) (m : Str) (sp : Sp) (dvs : List V) (E : XK) (ta : TE) (t : TA) : TE := fun σ H Q => ta σ H fun x H1 => ∃ a dx fs, x = .ref a /\ H1 a = some (.ins C dx fs) /\ fs.lookup m = none ∧
 t σ H1 fun vs H2 => sp (x :: (vs ++ dvs)) H2 Q E
def tMake (C : Addr) (sp : Sp) (dvs : List V) (E : XK) (t : TA) : TE := fun σ H Q => t σ H fun vs H1 => ∀ x dx, H1 x = none -> H1 dx = none -> dx ≠ x →
 sp (.ref x :: (vs ++ dvs)) (upd (upd H1 dx (.own x)) x (.ins C dx [])) (fun v H2 => v = .non /\ Q (.ref x) H2) E
def Binds (K : PySem.W.Frag) (fd : FuncData) (ps : List Str) (ds : List Value) : Prop :=
 ∀ (s : Shared) (us : List Value), K.In s.heap -> (us ++ ds).length = ps.length -> BindsTo s fd ⟨us, []⟩ (ps.zip (us ++ ds))
theorem Binds.all {K : PySem.W.Frag} {fd : FuncData} {ps : List Str} (h : ∀ us : List Value, us.length = ps.length -> bindArgs fd ⟨us, []⟩ = pure (ps.zip us)) : Binds K fd ps [] := fun s us _ hl => by
 rw [List.append_nil] at hl ⊢
 exact .of_eq (h us hl)
def Passes (CX : CXT) (X : Cx) (E : XK) : Prop := ∀ (pins : List (Addr × Obj)) (σ : St) (H : Hp) (s : Shared) (e : Value) (s' : Shared), Inv X pins σ H s -> CX X.stack H s E e s' -> X.xe e s'
section
variable {X : Cx} {CX : CXT} {k : Nat} {f C : Addr} {fd : FuncData} {ps : List Str} {sp : Sp} {dvs : List V} {ds : List Value} {E : XK} {x m : Str} {p pos apos : Pos} {e o : Expr} {es : List Expr} {ta : TE} {t : TA}
theorem run_fn {pins : List (Addr × Obj)} {σ : St} {H : Hp} {s : Shared} {Q : VK} {us : List Value} {vs : List V} (F : FnOk X.prog X.w X.K X.mg X.base CX k f fd ps sp) (hr : Room k X.A) (hb : Binds X.K fd ps ds) (hd : Vals dvs ds) (hx : Passes CX X E)
   (I : Inv X pins σ H s) (r : Vals vs us) (h : sp (vs ++ dvs) H Q E) : wpAny (model X.prog X.w) X.A (call (.ref f) us) (EP X pins σ Q) X.xe s := by
 have r2 : Vals (vs ++ dvs) (us ++ ds) := r.append hd
 have hl : (us ++ ds).length = ps.length := by rw [← r2.length]; exact F.len _ _ _ _ h
 refine wpAny_call (codeAny_mono (F.run X.A X.stack s H ⟨us, []⟩ (us ++ ds) (vs ++ dvs) Q E hr I.env0 (hb s us I.kIn hl) r2 h) fun r s' hq => ?_)
 cases r with
 | error e => exact hx pins σ H s e s' I hq
 | ok fl =>
   cases fl with
   | ret u => exact I.after hq
   | next => exact False.elim hq
   | brk => exact False.elim hq
   | cont => exact False.elim hq
theorem pe_call (F : FnOk X.prog X.w X.K X.mg X.base CX k f fd ps sp) (hr : Room k X.A) (hg : Gl X x) (hm : X.mg x = some (.ref f)) (hk : PySem.W.keepIn X.K (.ref f) = true) (hb : Binds X.K fd ps ds) (hd : Vals dvs ds) (hx : Passes CX X E)
   (ha : PA X (e :: es) t) (hdb : (x == ("__debug__" : Str)) = false := by decide) (he : starEach (e :: es) X.env = (false, eval e X.env) :: starEach es X.env := by rfl) (hpl : (backTo pos (starEach es X.env)).any (·.1) = false := by rfl) :
   PE X (.Call (.Name x p) (e :: es) [] pos) (tCall sp dvs E t) := by
 intro pins s σ H Q I h
 refine wpAny_Call_Name_kw (ld_glob I hg hm ?_ hdb)
 refine PySem.W.callWith_K (h₀ := X.base) I.ok.mod.kin hk (thn (ha pos pins s σ H _ I h) fun us s1 ⟨vs, H1, I1, r, q⟩ => ⟨I1.kIn, ?_⟩) he hpl
 exact run_fn F hr hb hd hx I1 r q
theorem pe_meth {pl : Sem Bool} (he : PE X o ta) (c : Cls X.K C) (hm : Meth X.K C m f) (F : FnOk X.prog X.w X.K X.mg X.base CX k f fd ps sp) (hr : Room k X.A) (hb : Binds X.K fd ps ds) (hd : Vals dvs ds) (hx : Passes CX X E) (ha : PA X (e :: es) t)
   (hst : starEach (e :: es) X.env = (false, eval e X.env) :: starEach es X.env := by rfl) (hpl : (backTo pos (starEach es X.env)).any (·.1) = false := by rfl)
   (ht : eval (.Call (.Attribute o m apos) (e :: es) [] pos) X.env = (do
     let ov ← eval o X.env
     standAt apos.atName
     let (f, first) ← holding [ov] (getMethod ov m pl)
     callWith pos f first (backTo pos (starEach (e :: es) X.env)) (backToKw pos (keywordEach [] X.env))) := by rfl) :
   PE X (.Call (.Attribute o m apos) (e :: es) [] pos) (tMeth C m sp dvs E ta t) := by
 intro pins s σ H Q I h
 refine PySem.W.methodCall_KW (pl := pl) (thn (he pins s σ H _ I h) fun u s1 ⟨x, H1, I1, rx, a, dx, fs, ex, ea, l, q⟩ => ?_) ht
 subst ex
 obtain rfl : u = Value.ref a := rx
 refine qci I1 ea c hm l ?_
 refine PySem.W.callWith_K (first := [.ref a]) (h₀ := X.base) I.ok.mod.kin hm.kp (thn (ha pos pins s1 σ H1 _ I1 q) fun us s2 ⟨vs, H2, I2, r, q2⟩ => ⟨I2.kIn, ?_⟩) hst hpl
 exact run_fn (us := .ref a :: us) (vs := .ref a :: vs) F hr hb hd hx I2 (.cons rfl r) q2
theorem je_meth {pl : Sem Bool} (he : JE X o ta) (c : Cls X.K C) (hm : Meth X.K C m f) (F : FnOk X.prog X.w X.K X.mg X.base CX k f fd ps sp) (hr : Room k X.A) (hb : Binds X.K fd ps ds) (hd : Vals dvs ds) (hx : Passes CX X E) (ha : JA X (e :: es) t) (hst : starEach (e :: es) X.env = (false, eval e X.env) :: starEach es X.env := by rfl) (hpl : (backTo pos (starEach es X.env)).any (·.1) = false := by rfl) (ht : eval (.Call (.Attribute o m apos) (e :: es) [] pos) X.env = (do
     let ov ← eval o X.env
     standAt apos.atName
     let (f, first) ← holding [ov] (getMethod ov m pl)
     callWith pos f first (backTo pos (starEach (e :: es) X.env)) (backToKw pos (keywordEach [] X.env))) := by rfl) : JE X (.Call (.Attribute o m apos) (e :: es) [] pos) (tMeth C m sp dvs E ta t) := .of (pe_meth he.to c hm F hr hb hd hx ha.to hst hpl ht)
theorem pe_meth0 {pl : Sem Bool} (he : PE X o ta) (c : Cls X.K C) (hm : Meth X.K C m f) (F : FnOk X.prog X.w X.K X.mg X.base CX k f fd ps sp) (hr : Room k X.A) (hb : Binds X.K fd ps ds) (hd : Vals dvs ds) (hx : Passes CX X E)
   (ht : eval (.Call (.Attribute o m apos) [] [] pos) X.env = (do
     let ov ← eval o X.env
     standAt apos.atName
     let (f, first) ← holding [ov] (getMethod ov m pl)
     callWith pos f first (backTo pos (starEach [] X.env)) (backToKw pos (keywordEach [] X.env))) := by rfl) :
   PE X (.Call (.Attribute o m apos) [] [] pos) (tMeth C m sp dvs E ta tNil) := by
 intro pins s σ H Q I h
 refine PySem.W.methodCall_KW (pl := pl) (thn (he pins s σ H _ I h) fun u s1 ⟨x, H1, I1, rx, a, dx, fs, ex, ea, l, q⟩ => ?_) ht
 subst ex
 obtain rfl : u = Value.ref a := rx
 refine qci I1 ea c hm l ?_
 exact PySem.W.callWith_K0 (first := [.ref a]) I1.kIn hm.kp (run_fn (us := [.ref a]) (vs := [.ref a]) F hr hb hd hx I1 (.cons rfl .nil) q)
theorem je_meth0 {pl : Sem Bool} (he : JE X o ta) (c : Cls X.K C) (hm : Meth X.K C m f) (F : FnOk X.prog X.w X.K X.mg X.base CX k f fd ps sp) (hr : Room k X.A) (hb : Binds X.K fd ps ds) (hd : Vals dvs ds) (hx : Passes CX X E) (ht : eval (.Call (.Attribute o m apos) [] [] pos) X.env = (do
     let ov ← eval o X.env
     standAt apos.atName
     let (f, first) ← holding [ov] (getMethod ov m pl)
     callWith pos f first (backTo pos (starEach [] X.env)) (backToKw pos (keywordEach [] X.env))) := by rfl) : JE X (.Call (.Attribute o m apos) [] [] pos) (tMeth C m sp dvs E ta tNil) := .of (pe_meth0 he.to c hm F hr hb hd hx ht)
structure Mk (K : PySem.W.Frag) (C f : Addr) : Prop where
 makes : PySem.W.makesIn K C = true
 init : PySem.W.findIn K (.ref C) "__init__" = some (some (.ref f))
 fn : PySem.W.isFn K (.ref f) = true
 kp : PySem.W.keepIn K (.ref C) = true
theorem run_make {pins : List (Addr × Obj)} {σ : St} {H : Hp} {s : Shared} {Q : VK} {us : List Value} {vs : List V} (M : Mk X.K C f) (F : FnOk X.prog X.w X.K X.mg X.base CX k f fd ps sp) (hr : Room (k + 1) X.A) (hb : Binds X.K fd ps ds) (hd : Vals dvs ds)
   (hx : Passes CX X E) (I : Inv X pins σ H s) (r : Vals vs us)
   (h : ∀ x dx, H x = none -> H dx = none -> dx ≠ x -> sp (.ref x :: (vs ++ dvs)) (upd (upd H dx (.own x)) x (.ins C dx [])) (fun v H2 => v = .non /\ Q (.ref x) H2) E) :
   wpAny (model X.prog X.w) X.A (call (.ref C) us) (EP X pins σ Q) X.xe s := by
 have hq := h (s.heap.objs.size + 1) s.heap.objs.size (I.hok.fresh (Nat.le_succ _)) (I.hok.fresh (Nat.le_refl _)) (Nat.ne_of_lt (Nat.lt_succ_self _))
 have I2 := Inv.made (C := C) I
 have r2 : Vals (V.ref (s.heap.objs.size + 1) :: (vs ++ dvs)) (Value.ref (s.heap.objs.size + 1) :: (us ++ ds)) := .cons rfl (r.append hd)
 have hl : (Value.ref (s.heap.objs.size + 1) :: us ++ ds).length = ps.length := by
   have e := r2.length
   rw [F.len _ _ _ _ hq] at e
   exact e.symm
 refine wpAny_call (make_map (f := f) I.kIn M.makes M.init (beq_iff_eq.mp M.fn) (codeAny_mono (F.run _ X.stack _ _ ⟨Value.ref (s.heap.objs.size + 1) :: us, []⟩ (Value.ref (s.heap.objs.size + 1) :: (us ++ ds)) _ _ E (hr.make C us [])
   (I2.env0.make C us []) (hb _ (Value.ref (s.heap.objs.size + 1) :: us) I2.kIn hl) r2 hq) fun r s' hq' => ?_))
 cases r with
 | error e => exact hx pins σ _ _ e s' I2 hq'
 | ok fl =>
   cases fl with
   | ret u =>
     obtain ⟨v, H', I3, rv, ev, q3⟩ := I2.after hq'
     subst ev
     exact ⟨rv, ⟨V.ref (s.heap.objs.size + 1), H', I3, rfl, q3⟩⟩
   | next => exact False.elim hq'
   | brk => exact False.elim hq'
   | cont => exact False.elim hq'
theorem je_make (M : Mk X.K C f) (F : FnOk X.prog X.w X.K X.mg X.base CX k f fd ps sp) (hr : Room (k + 1) X.A) (hg : Gl X x) (hm : X.mg x = some (.ref C)) (hb : Binds X.K fd ps ds) (hd : Vals dvs ds) (hx : Passes CX X E) (ha : JA X (e :: es) t) (hdb : (x == ("__debug__" : Str)) = false := by decide) (he : starEach (e :: es) X.env = (false, eval e X.env) :: starEach es X.env := by rfl) (hpl : (backTo pos (starEach es X.env)).any (·.1) = false := by rfl) : JE X (.Call (.Name x p) (e :: es) [] pos) (tMake C sp dvs E t) := .of (by
 have ha := ha.to
 intro pins s σ H Q I h
 refine wpAny_Call_Name_kw (ld_glob I hg hm ?_ hdb)
 refine PySem.W.callWith_K (h₀ := X.base) I.ok.mod.kin M.kp (thn (ha pos pins s σ H _ I h) fun us s1 ⟨vs, H1, I1, r, q⟩ => ⟨I1.kIn, ?_⟩) he hpl
 exact run_make M F hr hb hd hx I1 r q)
end
section
variable {X : Cx} {CX : CXT} {k : Nat} {f C : Addr} {fd : FuncData} {ps ks : List Str} {sp : Sp} {E : XK} {x m : Str} {p pos apos kpos : Pos} {e o : Expr} {es : List Expr} {kws : List Keyword} {te ta : TE} {t tk : TA} {nm : Option Str}
structure KBinds (K : PySem.W.Frag) (fd : FuncData) (ps ks : List Str) (g : List Value -> List Value -> List Value) (gV : List V -> List V -> List V) : Prop where
 to : ∀ (s : Shared) (us ws : List Value), K.In s.heap -> (g us ws).length = ps.length -> BindsTo s fd ⟨us, ks.zip ws⟩ (ps.zip (g us ws))
 rel : ∀ {vs : List V} {us : List Value} {zs : List V} {ws : List Value}, Vals vs us -> Vals zs ws -> Vals (gV vs zs) (g us ws)
variable {g : List Value -> List Value -> List Value} {gV : List V -> List V -> List V}
end
structure FnScope (N P : List Str) (sc : Scope) : Prop where
 kind : sc.kind = .function
 co : sc.isCoroutine = false
 gen : sc.isGenerator = false
 nd : N.Nodup
 pre : N.take P.length = P
 par : ∀ x ∈ P, sc.names.lookup x = some .local ∨ sc.names.lookup x = some .cell
 nofree : ∀ y ∈ sc.names, y.2 ≠ .free
theorem bindL_out {kindOf : Str -> Option NameKind} {x : Str} : ∀ {binds : List (Str × Value)} {m : Str -> Option Value}, (∀ v, (x, v) ∉ binds) -> bindL kindOf binds m x = m x
 | [], _, _ => rfl
 | (n, v) :: r, m, h => by
   unfold bindL
   rw [bindL_out fun w hw => h w (List.mem_cons_of_mem _ hw)]
   split
   . have : x ≠ n := by rintro rfl; exact h v List.mem_cons_self
     simp [this]
   . rfl
theorem bindC_out {kindOf : Str -> Option NameKind} {x : Str} : ∀ {binds : List (Str × Value)} {m : Str -> Option Value}, (∀ v, (x, v) ∉ binds) -> bindC kindOf binds m x = m x
 | [], _, _ => rfl
 | (n, v) :: r, m, h => by
   unfold bindC
   rw [bindC_out fun w hw => h w (List.mem_cons_of_mem _ hw)]
   split
   . rfl
   . have : x ≠ n := by rintro rfl; exact h v List.mem_cons_self
     simp [this]
theorem bindL_get {kindOf : Str -> Option NameKind} {x : Str} {v : Value} : ∀ {P : List Str} {vs : List Value} {i : Nat} {m : Str -> Option Value}, P.Nodup -> P[i]? = some x -> vs[i]? = some v -> kindOf x = some .local →
   bindL kindOf (P.zip vs) m x = some v
 | [], _, _, _, _, h, _, _ => by simp at h
 | _ :: _, [], _, _, _, _, h, _ => by simp at h
 | p :: P, w :: vs, 0, m, nd, h1, h2, hk => by
   simp at h1 h2; subst h1; subst h2
   show bindL kindOf ((p, w) :: P.zip vs) m p = _
   unfold bindL
   rw [bindL_out fun v hv => (List.nodup_cons.mp nd).1 (List.of_mem_zip hv).1, if_pos hk]
   simp
 | p :: P, w :: vs, i + 1, m, nd, h1, h2, hk => by
   show bindL kindOf ((p, w) :: P.zip vs) m x = _
   unfold bindL
   exact bindL_get (i := i) (List.nodup_cons.mp nd).2 (by simpa using h1) (by simpa using h2) hk
theorem bindC_get {kindOf : Str -> Option NameKind} {x : Str} {v : Value} : ∀ {P : List Str} {vs : List Value} {i : Nat} {m : Str -> Option Value}, P.Nodup -> P[i]? = some x -> vs[i]? = some v -> kindOf x ≠ some .local →
   bindC kindOf (P.zip vs) m x = some v
 | [], _, _, _, _, h, _, _ => by simp at h
 | _ :: _, [], _, _, _, _, h, _ => by simp at h
 | p :: P, w :: vs, 0, m, nd, h1, h2, hk => by
   simp at h1 h2; subst h1; subst h2
   show bindC kindOf ((p, w) :: P.zip vs) m p = _
   unfold bindC
   rw [bindC_out fun v hv => (List.nodup_cons.mp nd).1 (List.of_mem_zip hv).1, if_neg hk]
   simp
 | p :: P, w :: vs, i + 1, m, nd, h1, h2, hk => by
   show bindC kindOf ((p, w) :: P.zip vs) m x = _
   unfold bindC
   exact bindC_get (i := i) (List.nodup_cons.mp nd).2 (by simpa using h1) (by simpa using h2) hk
def start (N : List Str) (vs : List V) : St := vs.map some ++ List.replicate (N.length - vs.length) none
def cxOf (CX : CXT) (P : Program) (w : World) (K : PySem.W.Frag) (mg : Str -> Option Value) (base : Heap) (N : List Str) (qual : Str) (scope : Scope) (f : Addr) (cd : Value) (A : Around) (outer : List Env) (s : Shared) (H : Hp) (E : XK) : Cx where
 prog := P
 w := w
 K := K
 mg := mg
 base := base
 A := A.deeper (envOfC qual scope s.heap.objs.size f cd)
 N := N
 s₀ := s
 H₀ := H
 env := envOfC qual scope s.heap.objs.size f cd
 outer := outer
 stack := envOfC qual scope s.heap.objs.size f cd :: outer
 ex := []
 calm := true
 fn := fun _ => true
 pn := []
 xe := fun e s' => wpAny (model P w) (A.deeper (envOfC qual scope s.heap.objs.size f cd)) (leaving (envOfC qual scope s.heap.objs.size f cd) e) (fun _ s'' => CX outer H s E e s'') (fun e' s'' => CX outer H s E e' s'') s'
theorem cell_has {sc : Scope} {n : Nat} {x : Str} (h : sc.names.lookup x = some .cell) : ∃ c, (cellsFrom n sc.names []).lookup x = some c := by
 have q := PySem.W.cellsFrom_some sc.names n [] (.inl h)
 exact Option.isSome_iff_exists.mp q
theorem inv_start {CX : CXT} {P : Program} {w : World} {K : PySem.W.Frag} {mg : Str -> Option Value} {base : Heap} {N ps : List Str} {qual : Str} {scope : Scope} {f : Addr} {cd : Value} {A : Around} {outer : List Env} {s s1 : Shared} {H : Hp} {E : XK} {us : List Value} {vs : List V}
   (S : FnScope N ps scope) (hd : A.handled = none) (e0 : Env0 P w K mg base A outer s H) (hl : vs.length = ps.length) (r : Vals vs us)
   (x : InCallC s s.heap.objs.size (bindL (envOfC qual scope s.heap.objs.size f cd).kindOf (ps.zip us) fun _ => none) (cellsFrom (s.heap.objs.size + 1) scope.names []) (bindC (envOfC qual scope s.heap.objs.size f cd).kindOf (ps.zip us) fun _ => none) s1) :
   Inv (cxOf CX P w K mg base N qual scope f cd A outer s H E) [] (start N vs) H s1 := by
 have hpl : ps.length <= N.length := by have := congrArg List.length S.pre; rw [List.length_take] at this; omega
 obtain ⟨h1, tk, rfl, hk⟩ := x.done
 have noA : ∀ b : Addr, b ∉ (cxOf CX P w K mg base N qual scope f cd A outer s H E).ex := fun b z => absurd (show b ∈ ([] : List Addr) from z) (by simp)
 refine ⟨⟨e0.mod, S.kind, rfl, rfl, Nat.le_refl _, fun y z c h1 h2 => ?_, fun y hy => ?_, fun y c _ h => ?_, fun _ => hd, Around.frames_deeper e0.frames, .inr ⟨rfl, rfl⟩, fun b z => absurd z (noA b), e0.bs, e0.bsz, fun b _ _ => noA b, fun b z => absurd z (noA b), e0.funs, e0.frf⟩,
   rfl, e0.bare, Un.kept hk, ⟨_, x.toInCall.ns, fun i y v h1 h2 h3 => ?_⟩, fun y c h => ⟨_, x.cell y c h⟩, e0.hok.fresh (Nat.le_refl _), fun y c h => ?_, fun p hp => absurd (show p ∈ ([] : List (Addr × Obj)) from hp) (by simp), e0.hok.kept hk, ?_⟩
 . exact name_of_addr x.apart (PySem.mem_of_lookup h1) (PySem.mem_of_lookup h2)
 . have hy : scope.names.lookup y = some .cell ∨ scope.names.lookup y = some .free := hy
   rcases hy with hy | hy
   . exact cell_has hy
   . exact absurd rfl (S.nofree _ (PySem.mem_of_lookup hy))
 . exact Nat.le_of_lt (x.above y c (PySem.mem_of_lookup h))
 . have hi : i < vs.length := by
     unfold start at h2
     by_cases hi : i < vs.length
     . exact hi
     . rw [List.getElem?_append_right (by simpa using hi)] at h2
       rw [List.getElem?_replicate] at h2
       split at h2 <;> cases h2
   have ha : vs[i]? = some v := by
     unfold start at h2
     rw [List.getElem?_append_left (by simpa using hi), List.getElem?_map] at h2
     cases e : vs[i]? with
     | none => rw [e] at h2; cases h2
     | some a => rw [e] at h2; cases h2; rfl
   obtain ⟨u, hu, rv⟩ := r.get ha
   have hp : ps[i]? = some y := by
     rw [← S.pre, List.getElem?_take_of_lt (by omega)]; exact h1
   have ndP : ps.Nodup := by rw [← S.pre]; exact S.nd.sublist (List.take_sublist _ _)
   refine ⟨u, rv, ?_⟩
   rcases S.par y (List.mem_of_getElem? hp) with k | k
   . exact .inl ⟨k, bindL_get ndP hp hu k⟩
   . obtain ⟨c, e⟩ := cell_has (n := s.heap.objs.size + 1) k
     refine .inr ⟨.inl k, c, e, ?_⟩
     have q := x.cell y c e
     rw [bindC_get ndP hp hu (by show scope.names.lookup y ≠ _; rw [k]; decide)] at q
     exact q
 . exact e0.hok.fresh (Nat.le_of_lt (x.above y c (PySem.mem_of_lookup h)))
 . unfold start
   show _ = N.length
   rw [List.length_append, List.length_map, List.length_replicate]
   omega
theorem fn_of {CX : CXT} {P : Program} {w : World} {K : PySem.W.Frag} {mg : Str -> Option Value} {base : Heap} {k : Nat} {f : Addr} {name qual : Str} {params : Arguments} {body : List Stmt} {scope : Scope} {dV kV doc pm cdv ct oc : Value} {an od : Option Addr}
   {osl : Array (Option Value)} {N ps : List Str} {sp : Sp} (lk : K.lookup f = some ⟨oc, od, .func (PySem.W.fnOf name qual params body scope dV kV doc pm an cdv ct), osl⟩) (hcd : PySem.W.codeIn K cdv qual = true) (S : FnScope N ps scope)
   (len : ∀ vs H Q E, sp vs H Q E -> vs.length = ps.length)
   (hbody : ∀ (A : Around) (outer : List Env) (s : Shared) (H : Hp) (vs : List V) (Q : VK) (E : XK), Room k (A.deeper (envOfC qual scope s.heap.objs.size f cdv)) -> sp vs H Q E →
     ∃ t, PSs (cxOf CX P w K mg base N qual scope f cdv A outer s H E) body t /\ t { nx := fun _ H' => Q .non H', rt := Q } (start N vs) H) :
   FnOk P w K mg base CX (k + 1) f (PySem.W.fnOf name qual params body scope dV kV doc pm an cdv ct) ps sp := by
 refine ⟨len, fun A outer s H args us vs Q E hr e0 hb r hsp => ?_⟩
 have hl := len _ _ _ _ hsp
 have KX : K.In s.heap := e0.mod.kin.keeps fun b o e => (e0.bs b o e).1
 have lim : s.heap.NoLimit := e0.mod.nolimit.keeps fun b o e => (e0.bs b o e).1
 have hkind : ∀ y ∈ ps.zip us, scope.names.lookup y.1 = some .local ∨ (scope.names.lookup y.1 = some .cell /\ ((cellsFrom (s.heap.objs.size + 1) scope.names []).lookup y.1).isSome = true) := fun ⟨n, v⟩ hy => by
   rcases S.par n (List.of_mem_zip hy).1 with q | q
   . exact .inl q
   . exact .inr ⟨q, PySem.W.cellsFrom_some _ _ _ (.inl q)⟩
 refine codeAny_call_function hr.depth (KX _ _ lk) rfl S.co S.gen rfl (PySem.W.codeRec_of KX hcd) (hb _ _ _ _ ?_)
 refine wpAny_newFunctionEnv_cells S.kind hkind fun env he s1 x => ?_
 subst he
 refine ⟨lim.keeps x.toInCall.keep, codeAny_func ?_⟩
 obtain ⟨t, ht, hq⟩ := hbody A outer s H vs Q E (hr.deeper _) hsp
 have I : Inv (cxOf CX P w K mg base N qual scope f cdv A outer s H E) [] (start N vs) H s1 := inv_start S hr.hd e0 hl r x
 refine wpAny_mono (ht [] s1 (start N vs) H _ I hq) (fun fl s' hs => ?_) fun e s' hs => hs
 have fin : ∀ {σ' : St} {H' : Hp} {v : V} {u : Value}, Inv (cxOf CX P w K mg base N qual scope f cdv A outer s H E) [] σ' H' s' -> RelV v u -> Q v H' -> CE outer P w H s Q u s' :=
   fun {σ' H' v u} J rv q => ⟨v, H', J.os, J.bare, J.base, J.hok, rv, q⟩
 cases fl with
 | ret u =>
   obtain ⟨v, σ', H', J, rv, q⟩ := hs
   exact fin J rv q
 | next =>
   obtain ⟨σ', H', J, q⟩ := hs
   exact fin (v := V.non) (u := Value.none) J rfl q
 | brk =>
   obtain ⟨_, _, _, q⟩ := hs
   exact False.elim q
 | cont =>
   obtain ⟨_, _, _, q⟩ := hs
   exact False.elim q
end L2
namespace L2
open PySem PySem.Spec PyProof.Rows
section
variable {X : Cx} {x : Str} {p pos : Pos} {e : Expr} {es : List Expr} {t : TA} {id T : String} {r : List V -> Hp -> VK -> Prop}
def tCB (r : List V -> Hp -> VK -> Prop) (t : TA) : TE := fun σ H Q => t σ H fun vs H1 => r vs H1 Q
theorem qan (hc : CallR X (.builtin id) r) (hg : Gl X x) (hm : X.mg x = none) (hv : bootBuiltins x = some (.builtin id)) (ha : JA X (e :: es) t) (hn : x ≠ "__name__" := by decide) (hdb : (x == ("__debug__" : Str)) = false := by decide) (he : starEach (e :: es) X.env = (false, eval e X.env) :: starEach es X.env := by rfl) (hpl : (backTo pos (starEach es X.env)).any (·.1) = false := by rfl) : JE X (.Call (.Name x p) (e :: es) [] pos) (tCB r t) := .of (by
 have ha := ha.to
 intro pins s σ H Q I h
 refine wpAny_Call_Name_kw (ld_blt I hg hm hv ?_ hn hdb)
 exact PyProof.Rows.callWith_builtin1 (thn (ha pos pins s σ H _ I h) fun us s1 ⟨vs, H1, I1, r1, q1⟩ => hc pins s1 σ H1 vs us Q I1 r1 q1) he hpl)
theorem qbn (hc : CallR X (.type T) r) (hg : Gl X x) (hm : X.mg x = none) (hv : bootBuiltins x = some (.type T)) (ha : JA X (e :: es) t) (hn : x ≠ "__name__" := by decide) (hdb : (x == ("__debug__" : Str)) = false := by decide) (he : starEach (e :: es) X.env = (false, eval e X.env) :: starEach es X.env := by rfl) (hpl : (backTo pos (starEach es X.env)).any (·.1) = false := by rfl) : JE X (.Call (.Name x p) (e :: es) [] pos) (tCB r t) := .of (by
 have ha := ha.to
 intro pins s σ H Q I h
 refine wpAny_Call_Name_kw (ld_blt I hg hm hv ?_ hn hdb)
 exact PyProof.Rows.callWith_type1 (thn (ha pos pins s σ H _ I h) fun us s1 ⟨vs, H1, I1, r1, q1⟩ => hc pins s1 σ H1 vs us Q I1 r1 q1) he hpl)
end
end L2
namespace HT
open PySem PyProof.Rows
section
open PySem.SeqAt
open PySem.AutoSeq1 (wpAny_loadPart')
open PySem.MeetsSeq PySem.MeetsSeq2 PySem.MeetsSeq3
end
section
variable {prog : Program} {w : World} {A : Around} {E : Value -> Shared -> Prop} {s : Shared}
def sIx (n d : Nat) : Option Int -> Nat
 | none => d
 | some v => if v < 0 then (v + (n : Int)).toNat else min v.toNat n
theorem sIx_none (n d : Nat) : sIx n d none = d := rfl
theorem sIx_nat (n d k : Nat) : sIx n d (some (k : Int)) = min k n := by
 show (if (k : Int) < 0 then ((k : Int) + (n : Int)).toNat else min (k : Int).toNat n) = min k n
 rw [if_neg (by omega), Int.toNat_natCast]
end
end HT
namespace L2
open PySem PySem.Spec PyProof.Rows
abbrev TO := St -> Hp -> (Option Int -> Hp -> Prop) -> Prop
def PO (X : Cx) (e : Option Expr) (t : TO) : Prop :=
 ∀ (pins : List (Addr × Obj)) (s : Shared) (σ : St) (H : Hp) (Q : Option Int -> Hp -> Prop), Inv X pins σ H s -> t σ H Q →
   wpAny (model X.prog X.w) X.A (evalPart e X.env) (fun u s' => ∃ o H', Inv X pins σ H' s' /\ IsPart u o /\ Q o H') X.xe s
@[irreducible] def JO (X : Cx) (e : Option Expr) (t : TO) : Prop := PO X e t
theorem JO.of {X : Cx} {e : Option Expr} {t : TO} (h : PO X e t) : JO X e t := by unfold JO; exact h
theorem JO.to {X : Cx} {e : Option Expr} {t : TO} (h : JO X e t) : PO X e t := by unfold JO at h; exact h
def tNoPart : TO := fun _ H Q => Q none H
def tPart (t : TE) : TO := fun σ H Q => t σ H fun x H1 => ∃ i, x = .int i /\ Q (some i) H1
theorem intsAre_of {ns : List Int} : ∀ {us : List Value}, Vals (ns.map V.int) us -> IntsAre us ns := by
 induction ns with
 | nil => intro us r; rw [List.map_nil] at r; cases r; exact .nil
 | cons n ns ih =>
   intro us r
   rw [List.map_cons] at r
   cases r with
   | cons r1 r2 =>
     obtain ⟨t, e⟩ := r1
     subst e
     exact .cons n t (ih r2)
section
variable {X : Cx} {e : Expr} {te : TE} {lo hi : Option Expr} {tl th : TO} {pos p2 : Pos}
theorem jo_none  : JO X none tNoPart := .of (by
 intro pins s σ H Q I h
 rw [evalPart_none]
 exact wpAny_pure ⟨none, H, I, .none, h⟩)
theorem jo_some (h : JE X e te) : JO X (some e) (tPart te) := .of (by
 have h := h.to
 intro pins s σ H Q I hw
 rw [evalPart_some]
 refine thn (h pins s σ H _ I hw) fun u s1 ⟨x, H1, I1, r1, q1⟩ => ?_
 obtain ⟨i, rfl, q⟩ := q1
 obtain ⟨t, rfl⟩ := r1
 exact ⟨some i, H1, I1, .int i t, q⟩)
def SlR (X : Cx) (r : V -> Option Int -> Option Int -> Hp -> VK -> Prop) : Prop :=
 ∀ (pins : List (Addr × Obj)) (s : Shared) (σ : St) (H : Hp) (x : V) (v vl vu : Value) (lo hi : Option Int) (sl : Addr) (Q : VK), Inv X pins σ H s -> RelV x v -> s.heap.IsSliceOf sl vl vu .none -> IsPart vl lo -> IsPart vu hi -> r x lo hi H Q →
   ∃ T id, typeLookup (.type T) "__getitem__" = pure (some (.builtin id)) /\ s.TypeIs v T /\ wpAny (model X.prog X.w) X.A (getItem v (.ref sl)) (EP X pins σ Q) X.xe s
def tSl (r : V -> Option Int -> Option Int -> Hp -> VK -> Prop) (te : TE) (tl th : TO) : TE := fun σ H Q => te σ H fun x H1 => tl σ H1 fun l H2 => th σ H2 fun u H3 => r x l u H3 Q
theorem je_slice {r : V -> Option Int -> Option Int -> Hp -> VK -> Prop} (hr : SlR X r) (he : JE X e te) (hl : JO X lo tl) (hu : JO X hi th) : JE X (.Subscript e (.Slice lo hi none p2) pos) (tSl r te tl th) := .of (by
 have he := he.to
 have hl := hl.to
 have hu := hu.to
 intro pins s σ H Q I h
 refine Subscript_ (thn (he pins s σ H _ I h) fun v s1 ⟨x, H1, I1, r1, q1⟩ => ?_)
 refine wpAny_Slice (thn (hl pins s1 σ H1 _ I1 q1) fun vl s2 ⟨l, H2, I2, pl, q2⟩ => thn (hu pins s2 σ H2 _ I2 q2) fun vu s3 ⟨u, H3, I3, pu, q3⟩ => ?_)
 rw [evalPart_none]
 refine wpAny_pure ?_
 have I4 : Inv X pins σ H3 { s3 with heap := s3.heap.push { cls := .type "slice", data := .fields #[vl, vu, .none] } } := I3.kept (t' := s3.toks) fun b ob q => Heap.get?_push_of_some _ q
 obtain ⟨T, id, hT, ht, hg⟩ := hr pins { s3 with heap := s3.heap.push { cls := .type "slice", data := .fields #[vl, vu, .none] } } σ H3 x v vl vu l u s3.heap.objs.size Q I4 r1 (Heap.IsSliceOf.new ..) pl pu q3
 show wpAny (model X.prog X.w) X.A (subscriptTail e (.Slice lo hi none p2) v (.ref s3.heap.objs.size)) (EP X pins σ Q) X.xe { s3 with heap := s3.heap.push { cls := .type "slice", data := .fields #[vl, vu, .none] } }
 exact tail_any (ops := [.ref s3.heap.objs.size, v]) ht hT hg (by with_unfolding_all rfl))
def cutV (xs : List V) (lo hi : Option Int) : List V := (xs.drop (HT.sIx xs.length 0 lo)).take (HT.sIx xs.length xs.length hi - HT.sIx xs.length 0 lo)
theorem cutV_length (xs : List V) (lo hi : Option Int) : (cutV xs lo hi).length <= xs.length := by
 unfold cutV
 rw [List.length_take, List.length_drop]
 omega
end
end L2
namespace L2
open PySem PySem.Spec PyProof.Rows
def ixN (n : Nat) (i : Int) : Option Nat := if 0 <= i then (if i < n then some i.toNat else none) else if -(n : Int) <= i then some (i + n).toNat else none
def atI {α : Type} (xs : List α) (i : Int) : Option α := (ixN xs.length i).bind fun j => xs[j]?
theorem ixN_seq {n : Nat} {i : Int} {j : Nat} (h : ixN n i = some j) : seqIndex? i n = some j /\ j < n /\ -(n : Int) <= i /\ i < n := by
 unfold ixN at h
 by_cases h0 : 0 <= i
 . rw [if_pos h0] at h
   by_cases h1 : i < n
   . rw [if_pos h1] at h
     have e : i.toNat = j := Option.some.inj h
     exact ⟨by rw [seqIndex_of h0 h1, e], by omega, by omega, h1⟩
   . rw [if_neg h1] at h; cases h
 . rw [if_neg h0] at h
   by_cases h1 : -(n : Int) <= i
   . rw [if_pos h1] at h
     have e : (i + n).toNat = j := Option.some.inj h
     exact ⟨by rw [seqIndex_neg (by omega) h1, e], by omega, h1, by omega⟩
   . rw [if_neg h1] at h; cases h
theorem atI_get {α : Type} {xs : List α} {i : Int} {v : α} (h : atI xs i = some v) : ∃ j, seqIndex? i xs.length = some j /\ xs[j]? = some v /\ j < xs.length /\ -(xs.length : Int) <= i /\ i < xs.length := by
 unfold atI at h
 cases e : ixN xs.length i with
 | none => rw [e] at h; cases h
 | some j =>
   rw [e] at h
   obtain ⟨h1, h2, h3, h4⟩ := ixN_seq e
   exact ⟨j, h1, h, h2, h3, h4⟩
theorem atI_nat {α : Type} {xs : List α} {j : Nat} {v : α} (h : xs[j]? = some v) : atI xs (j : Int) = some v := by
 have hj : j < xs.length := (List.getElem?_eq_some_iff.mp h).1
 have e : ixN xs.length (j : Int) = some j := by
   unfold ixN
   rw [if_pos (by omega), if_pos (by omega)]; simp
 unfold atI; rw [e]; exact h
def PlainIx (b : Expr) : Prop := ∀ o i, subscripted b false o i = operate [o, i] (getItem o i)
def IxR (X : Cx) (r : R2) : Prop :=
 ∀ (value slice : Expr) (pins : List (Addr × Obj)) (s : Shared) (σ : St) (H : Hp) (x y : V) (v u : Value) (Q : VK), Inv X pins σ H s -> RelV x v -> RelV y u -> r x y H Q →
   subscripted slice false v u = operate [v, u] (getItem v u) -> wpAny (model X.prog X.w) X.A (subscriptTail value slice v u) (EP X pins σ Q) X.xe s
def MtR (X : Cx) (id : String) (r : V -> List V -> Hp -> VK -> Prop) : Prop :=
 ∀ (pins : List (Addr × Obj)) (s : Shared) (σ : St) (H : Hp) (x : V) (xs : List V) (v : Value) (us : List Value) (Q : VK), Inv X pins σ H s -> RelV x v -> Vals xs us -> r x xs H Q →
   wpAny (model X.prog X.w) X.A (call (.builtin id) (v :: us)) (EP X pins σ Q) X.xe s
section
variable {X : Cx} {a b : Expr} {ta tb : TE} {pos : Pos}
theorem qbs {r : R2} (hr : IxR X r) (ha : JE X a ta) (hb : JE X b tb) (hs : PlainIx b) : JE X (.Subscript a b pos) (tOp r ta tb) := .of (by
 have ha := ha.to
 have hb := hb.to
 intro pins s σ H Q I h
 exact Subscript_ (binT ha hb I h fun v u s2 x y H2 I2 rx ry q => hr a b pins s2 σ H2 x y v u Q I2 rx ry q (hs _ _)))
def rIxL (K : PySem.W.Frag) : R2 := fun x y H Q => ∃ p xs i v, x = .ref p /\ y = .int i /\ SqL K H p xs /\ atI xs i = some v /\ Q v H
def rIxT (K : PySem.W.Frag) : R2 := fun x y H Q => ∃ p xs i v, x = .ref p /\ y = .int i /\ SqT K H p xs /\ atI xs i = some v /\ Q v H
def rIxS : R2 := fun x y H Q => ∃ z i c, x = .str z /\ y = .int i /\ z.length <= sizeLine /\ atI z.cps.toList i = some c /\ Q (.str ⟨#[c]⟩) H
theorem qcq : IxR X (rIxL X.K) := by
 intro value slice pins s σ H x y v u Q I rx ry h hs
 obtain ⟨p, xs, i, z, rfl, rfl, hq, he, q⟩ := h
 cases rx
 obtain ⟨t, rfl⟩ := ry
 obtain ⟨its, r, pl, hz⟩ := I.list hq
 obtain ⟨j, h1, h2, h3, h4, h5⟩ := atI_get he
 obtain ⟨w, ew, rw'⟩ := r.get h2
 have hl := r.length
 have hn := line63
 have fin : EP X pins σ Q w s := ⟨z, H, I, rw', q⟩
 by_cases h0 : 0 <= i
 . have hj : i.toNat = j := by
     rw [seqIndex_of h0 h5] at h1
     exact Option.some.inj h1
   exact item_listR pl.isList h0 (by omega) (by rw [hj]; simpa using ew) fin hs
 . have hj : (i + (its.toArray.size : Int)).toNat = j := by
     rw [seqIndex_neg (by omega) h4] at h1
     rw [List.size_toArray, ← hl]
     exact Option.some.inj h1
   exact subscriptTail_builtinR (x := w) pl.isList.typeIs slot_list_getitem.lookup
     (wpAny_getItem_list_neg (Q := fun r s' => r = w /\ EP X pins σ Q r s') pl.isList (by omega) (by rw [List.size_toArray] <;> omega) (by omega) (by rw [hj]; simpa using ew) ⟨rfl, fin⟩) hs
theorem qbu : IxR X (rIxT X.K) := by
 intro value slice pins s σ H x y v u Q I rx ry h hs
 obtain ⟨p, xs, i, z, rfl, rfl, hq, he, q⟩ := h
 cases rx
 obtain ⟨t, rfl⟩ := ry
 obtain ⟨its, r, pl, hz⟩ := I.tuple hq
 obtain ⟨j, h1, h2, h3, h4, h5⟩ := atI_get he
 obtain ⟨w, ew, rw'⟩ := r.get h2
 have hl := r.length
 have hn := line63
 have fin : EP X pins σ Q w s := ⟨z, H, I, rw', q⟩
 exact subscriptTail_builtinR (x := w) pl.typeIs slot_tuple_getitem.lookup
   (getItem_tuple (j := j) (Q := fun r s' => r = w /\ EP X pins σ Q r s') pl (by omega) (by omega) (by rw [List.size_toArray, ← hl]; exact h1) (by simpa using ew) ⟨rfl, fin⟩) hs
theorem ix_str : IxR X rIxS := by
 intro value slice pins s σ H x y v u Q I rx ry h hs
 obtain ⟨z, i, c, rfl, rfl, hz, he, q⟩ := h
 obtain ⟨t, rfl⟩ := rx
 obtain ⟨t', rfl⟩ := ry
 obtain ⟨j, h1, h2, h3, h4, h5⟩ := atI_get he
 have hl : z.cps.toList.length = z.length := by simp [Str.length]
 rw [hl] at h1 h4 h5
 have hn := line63
 exact tail_any (typeIs_str s z t) slot_str_getitem.lookup (getItem_str (c := c) (by
   have e1 : decide (i < -(2 ^ 63 : Int)) = false := decide_eq_false (by omega)
   have e2 : decide (i ≥ 2 ^ 63) = false := decide_eq_false (by omega)
   rw [e1, e2, Bool.or_false]) (by rw [h1]; simpa using h2) ⟨.str ⟨#[c]⟩, H, I.tok _, ⟨_, rfl⟩, q⟩) hs
theorem mapSeq_set (its : List Value) (n j : Nat) (u : Value) : Obj.mapSeq (·.setIfInBounds j u) { cls := .type "list", data := .seq its.toArray n } = { cls := .type "list", data := .seq (its.set j u).toArray n } := by
 simp [Obj.mapSeq]
theorem Inv.lst {pins : List (Addr × Obj)} {σ : St} {H : Hp} {s : Shared} {p : Addr} {xs : List V} (I : Inv X pins σ H s) (h : H p = some (.lst xs)) :
   ∃ (its : List Value) (n : Nat), Vals xs its /\ s.heap.get? p = some { cls := .type "list", data := .seq its.toArray n } /\ xs.length <= sizeLine := by
 obtain ⟨z, its, n, r, e⟩ := I.hok p _ h
 exact ⟨its, n, r, e, z⟩
theorem Inv.lstUpd {pins : List (Addr × Obj)} {σ : St} {H : Hp} {s : Shared} {p : Addr} {xs ys : List V} {its its' : List Value} {n n' : Nat} {f : Obj -> Obj} (I : Inv X pins σ H s) (h : H p = some (.lst xs))
   (ho : s.heap.get? p = some { cls := .type "list", data := .seq its.toArray n }) (hf : f { cls := .type "list", data := .seq its.toArray n } = { cls := .type "list", data := .seq its'.toArray n' }) (r : Vals ys its') (hz : ys.length <= sizeLine) (t : Nat) :
   Inv X pins σ (upd H p (.lst ys)) { s with heap := s.heap.update p f, toks := t } := by
 have e : (s.heap.update p f).get? p = some { cls := .type "list", data := .seq its'.toArray n' } := by
   rw [Heap.get?_update_self f ho (by rw [hf] <;> rfl), hf]
 refine I.write (x := p) (e := p) (by rw [h]; trivial) (.inl rfl) (fun b u hb q => (Heap.get?_update_other _ _ (Ne.symm hb)).trans q) ⟨_, e⟩ ?_
 exact ⟨hz, its', n', r, e⟩
def rSetL : V -> V -> V -> Hp -> (Hp -> Prop) -> Prop := fun o i v H Q => ∃ p xs k j, o = .ref p /\ i = .int k /\ H p = some (.lst xs) /\ ixN xs.length k = some j /\ Q (upd H p (.lst (xs.set j v)))
theorem set_list : PSet X rSetL := by
 intro pins s σ H o i v ov iv u Q I ro ri rv h
 obtain ⟨p, xs, k, j, rfl, rfl, hp, hj, q⟩ := h
 cases ro
 obtain ⟨t, rfl⟩ := ri
 obtain ⟨its, n, r, ho, hz⟩ := I.lst hp
 obtain ⟨h1, h2, h3, h4⟩ := ixN_seq hj
 have hl := r.length
 have hn := line63
 have I' : Inv X pins σ (upd H p (.lst (xs.set j v))) { s with heap := s.heap.update p (Obj.mapSeq (·.setIfInBounds j u)) } :=
   I.lstUpd hp ho (mapSeq_set its n j u) (r.set rv j) (by rw [List.length_set]; exact hz) s.toks
 by_cases h0 : 0 <= k
 . have hk : k.toNat = j := by
     rw [seqIndex_of h0 h4] at h1
     exact Option.some.inj h1
   exact PySem.W.ki_setAt ho h0 (by omega) (by rw [List.size_toArray, ← hl]; exact h4) (by rw [hk]; exact ⟨_, I', q⟩)
 . have hk : (k + (its.toArray.size : Int)).toNat = j := by
     rw [seqIndex_neg (by omega) h3] at h1
     rw [List.size_toArray, ← hl]
     exact Option.some.inj h1
   exact PySem.W.ki_setBack ho (by omega) (by rw [List.size_toArray, ← hl]; exact h3) (by omega) (by rw [hk]; exact ⟨_, I', q⟩)
theorem slice_bounds (lo hi : Option Int) (n : Nat) : (sliceBounds lo hi none n).1 = ((HT.sIx n 0 lo : Nat) : Int) /\ (sliceBounds lo hi none n).2.1 = ((HT.sIx n n hi : Nat) : Int) /\ (sliceBounds lo hi none n).2.2 = 1 := by
 refine ⟨?_, ?_, rfl⟩
 . cases lo with
   | none => simp [sliceBounds, HT.sIx]
   | some i =>
     simp only [sliceBounds, HT.sIx, Option.getD_none, show (1 : Int) > 0 by decide, if_true]
     by_cases h : i < 0
     . simp only [h, if_true] <;> omega
     . simp only [h, if_false] <;> omega
 . cases hi with
   | none => simp [sliceBounds, HT.sIx]
   | some i =>
     simp only [sliceBounds, HT.sIx, Option.getD_none, show (1 : Int) > 0 by decide, if_true]
     by_cases h : i < 0
     . simp only [h, if_true] <;> omega
     . simp only [h, if_false] <;> omega
theorem slicePick_cut (its : List Value) (lo hi : Option Int) : slicePick its.toArray lo hi none = ((its.drop (HT.sIx its.length 0 lo)).take (HT.sIx its.length its.length hi - HT.sIx its.length 0 lo)).toArray := by
 obtain ⟨h1, h2, h3⟩ := slice_bounds lo hi its.toArray.size
 unfold slicePick
 rw [h1, h2, h3]
 simp only [sliceRange_one, pick_run, List.size_toArray] <;> rfl
def rSlL (K : PySem.W.Frag) : V -> Option Int -> Option Int -> Hp -> VK -> Prop := fun x lo hi H Q => ∃ a xs, x = .ref a /\ SqL K H a xs /\ ∀ p, H p = none -> Q (.ref p) (upd H p (.lst (cutV xs lo hi)))
theorem sl_list : SlR X (rSlL X.K) := by
 intro pins s σ H x v vl vu lo hi sl Q I rx hs pl pu h
 obtain ⟨a, xs, rfl, hx, q⟩ := h
 cases rx
 obtain ⟨its, r, ht, hz⟩ := I.list hx
 have hlen := r.length
 refine ⟨"list", _, slot_list_getitem.lookup, ht.isList.typeIs, ?_⟩
 refine wpAny_getItem_list_slice ht.isList hs pl pu .none (by simp) ?_ (by rw [List.size_toArray] <;> omega)
 rw [slicePick_cut, ← hlen]
 refine ⟨.ref s.heap.objs.size, _, I.laid (t' := s.toks) (o := .lst (cutV xs lo hi)) (fun b ob q => Heap.get?_push_of_some _ q) (Nat.le_refl _) ?_, rfl, q _ (I.hok.fresh (Nat.le_refl _))⟩
 exact ⟨Nat.le_trans (cutV_length xs lo hi) hz, _, 0, (r.drop (HT.sIx xs.length 0 lo)).take (HT.sIx xs.length xs.length hi - HT.sIx xs.length 0 lo), Heap.get?_push_size _ rfl⟩
def flatV : V -> Bool
 | .non => true
 | .bl _ => true
 | .int _ => true
 | .str _ => true
 | _ => false
def eqV : V -> V -> Bool
 | .non, .non => true
 | .bl a, .bl b => a == b
 | .bl a, .int b => (if a then 1 else 0) == b
 | .int a, .bl b => a == (if b then 1 else 0)
 | .int a, .int b => a == b
 | .str a, .str b => a == b
 | _, _ => false
theorem eqAt_V {A : Around} {s : Shared} {y x : V} {u v : Value} (ry : RelV y u) (rx : RelV x v) (fy : flatV y = true) (fx : flatV x = true) : SeqAt.EqAt A s u v (eqV y x) := by
 cases y with
 | non =>
   cases ry
   cases x with
   | non => cases rx; exact SeqAt.EqAt.same _
   | bl b => cases rx; exact SeqAt.EqAt.none_bool b
   | int b => obtain ⟨t, rfl⟩ := rx; exact SeqAt.EqAt.none_int b t
   | str b => obtain ⟨t, rfl⟩ := rx; exact SeqAt.EqAt.none_str b t
   | _ => exact absurd (show false = true from fx) Bool.false_ne_true
 | bl a =>
   cases ry
   cases x with
   | non => cases rx; exact SeqAt.EqAt.bool_none a
   | bl b => cases rx; exact SeqAt.EqAt.bool_bool a b
   | int b => obtain ⟨t, rfl⟩ := rx; exact SeqAt.EqAt.bool_int a b t
   | str b => obtain ⟨t, rfl⟩ := rx; exact SeqAt.EqAt.bool_str a b t
   | _ => exact absurd (show false = true from fx) Bool.false_ne_true
 | int a =>
   obtain ⟨t', rfl⟩ := ry
   cases x with
   | non => cases rx; exact SeqAt.EqAt.int_none a t'
   | bl b => cases rx; exact SeqAt.EqAt.int_bool a t' b
   | int b => obtain ⟨t, rfl⟩ := rx; exact SeqAt.EqAt.int_int a t' b t
   | str b => obtain ⟨t, rfl⟩ := rx; exact SeqAt.EqAt.int_str a t' b t
   | _ => exact absurd (show false = true from fx) Bool.false_ne_true
 | str a =>
   obtain ⟨t', rfl⟩ := ry
   cases x with
   | non => cases rx; exact SeqAt.EqAt.str_none a t'
   | bl b => cases rx; exact SeqAt.EqAt.str_bool a t' b
   | int b => obtain ⟨t, rfl⟩ := rx; exact SeqAt.EqAt.str_int a t' b t
   | str b => obtain ⟨t, rfl⟩ := rx; exact SeqAt.EqAt.str_str a t' b t
   | _ => exact absurd (show false = true from fx) Bool.false_ne_true
 | _ => exact absurd (show false = true from fy) Bool.false_ne_true
def eqU (x : V) (u : Value) : Bool := match u with
 | .none => eqV .non x
 | .bool b => eqV (.bl b) x
 | .int i _ => eqV (.int i) x
 | .str z _ => eqV (.str z) x
 | _ => false
theorem eqU_of {x y : V} {u : Value} (r : RelV y u) (f : flatV y = true) : eqU x u = eqV y x := by
 cases y with
 | non => cases r; rfl
 | bl b => cases r; rfl
 | int i => obtain ⟨t, rfl⟩ := r; rfl
 | str z => obtain ⟨t, rfl⟩ := r; rfl
 | _ => exact absurd (show false = true from f) Bool.false_ne_true
theorem any_eqU {x : V} : ∀ {xs : List V} {us : List Value}, Vals xs us -> xs.all flatV = true -> us.any (eqU x) = xs.any fun y => eqV y x
 | _, _, .nil, _ => rfl
 | y :: xs, u :: us, .cons r t, f => by
   rw [List.all_cons, Bool.and_eq_true] at f
   rw [List.any_cons, List.any_cons, eqU_of r f.1, any_eqU t f.2]
theorem mem_eqAt {A : Around} {s : Shared} {x : V} {v : Value} (rx : RelV x v) (fx : flatV x = true) : ∀ {xs : List V} {us : List Value}, Vals xs us -> xs.all flatV = true -> ∀ u ∈ us, SeqAt.EqAt A s u v (eqU x u)
 | _, _, .nil, _ => fun u hu => by cases hu
 | y :: xs, u :: us, .cons r t, f => fun u' hu => by
   rw [List.all_cons, Bool.and_eq_true] at f
   rcases List.mem_cons.mp hu with rfl | hu
   . rw [eqU_of r f.1]; exact eqAt_V r rx f.1 fx
   . exact mem_eqAt rx fx t f.2 u' hu
def inV (x : V) (xs : List V) : Bool := xs.any fun y => eqV y x
def rIn (K : PySem.W.Frag) (neg : Bool) : R2 := fun x y H Q => ∃ p xs, y = .ref p /\ (SqL K H p xs ∨ SqT K H p xs) /\ flatV x = true /\ xs.all flatV = true /\ Q (.bl (if neg then !inV x xs else inV x xs)) H
theorem qca : OpR X (compareOp .In) (rIn X.K false) := by
 intro pins s σ H x y v u Q I rx ry h
 obtain ⟨p, xs, rfl, hq, fx, fs, q⟩ := h
 cases ry
 rcases hq with hq | hq
 . obtain ⟨its, r, pl, hz⟩ := I.list hq
   refine SeqAt.in_listAt (eqU x) pl.isList (fun w hw => mem_eqAt rx fx r fs w (by simpa using hw)) ⟨.bl _, H, I, rfl, ?_⟩
   rw [show its.toArray.any (eqU x) = its.any (eqU x) by simp, any_eqU r fs]
   exact q
 . obtain ⟨its, r, pl, hz⟩ := I.tuple hq
   refine SeqAt.in_tupleAt (eqU x) pl (fun w hw => mem_eqAt rx fx r fs w (by simpa using hw)) ⟨.bl _, H, I, rfl, ?_⟩
   rw [show its.toArray.any (eqU x) = its.any (eqU x) by simp, any_eqU r fs]
   exact q
theorem qcm : OpR X (compareOp .NotIn) (rIn X.K true) := by
 intro pins s σ H x y v u Q I rx ry h
 obtain ⟨p, xs, rfl, hq, fx, fs, q⟩ := h
 cases ry
 rcases hq with hq | hq
 . obtain ⟨its, r, pl, hz⟩ := I.list hq
   refine SeqAt.notIn_listAt (eqU x) pl.isList (fun w hw => mem_eqAt rx fx r fs w (by simpa using hw)) ⟨.bl _, H, I, rfl, ?_⟩
   rw [show its.toArray.any (eqU x) = its.any (eqU x) by simp, any_eqU r fs]
   exact q
 . obtain ⟨its, r, pl, hz⟩ := I.tuple hq
   refine SeqAt.notIn_tupleAt (eqU x) pl (fun w hw => mem_eqAt rx fx r fs w (by simpa using hw)) ⟨.bl _, H, I, rfl, ?_⟩
   rw [show its.toArray.any (eqU x) = its.any (eqU x) by simp, any_eqU r fs]
   exact q
theorem qas : CallR X (.builtin "len") (fun xs H Q => ∃ p ys, xs = [.ref p] /\ (SqL X.K H p ys ∨ SqT X.K H p ys) /\ Q (.int ys.length) H) := by
 intro pins s σ H xs us Q I r h
 obtain ⟨p, ys, rfl, hq, q⟩ := h
 obtain ⟨u, rfl, rx⟩ := vals1 r
 cases rx
 have hn := line63
 rcases hq with hq | hq
 . obtain ⟨its, r', pl, hz⟩ := I.list hq
   have hlen := r'.length
   exact Calls.call_len_list pl.isList (by simp only [List.size_toArray] <;> omega) ⟨.int ys.length, H, I.tok _, ⟨s.toks + 1, by rw [List.size_toArray, hlen]⟩, q⟩
 . obtain ⟨its, r', pl, hz⟩ := I.tuple hq
   have hlen := r'.length
   exact len_tuple pl (by simp only [List.size_toArray] <;> omega) ⟨.int ys.length, H, I.tok _, ⟨s.toks + 1, by rw [List.size_toArray, hlen]⟩, q⟩
theorem call_len_str : CallR X (.builtin "len") (fun xs H Q => ∃ z, xs = [.str z] /\ z.length <= sizeLine /\ Q (.int z.length) H) := by
 intro pins s σ H xs us Q I r h
 obtain ⟨z, rfl, hz, q⟩ := h
 obtain ⟨u, rfl, t, rfl⟩ := vals1 r
 have hn := line63
 exact len_str (by omega) ⟨.int z.length, H, I.tok _, ⟨_, rfl⟩, q⟩
theorem qcd : CallR X (.type "list") (fun xs H Q => ∃ p ys, xs = [.ref p] /\ (SqL X.K H p ys ∨ SqT X.K H p ys) /\ ∀ l, H l = none -> Q (.ref l) (upd H l (.lst ys))) := by
 intro pins s σ H xs us Q I r h
 obtain ⟨p, ys, rfl, hq, q⟩ := h
 obtain ⟨u, rfl, rx⟩ := vals1 r
 cases rx
 have fin : ∀ (its : List Value), Vals ys its -> ys.length <= sizeLine -> ∀ (h' : Heap) (c' : Nat), (∀ b o', s.heap.get? b = some o' -> h'.get? b = some o') →
     h'.get? s.heap.objs.size = some { cls := .type "list", dict := none, data := .seq its.toArray c', slots := #[] } -> EP X pins σ Q (.ref s.heap.objs.size) { s with heap := h' } := fun its r' hz h' c' kp e =>
   ⟨.ref s.heap.objs.size, _, I.laid (t' := s.toks) kp (Nat.le_refl _) (show ObjOk X.prog X.w _ h' _ (.lst ys) from ⟨hz, its, c', r', e⟩), rfl, q _ (I.hok.fresh (Nat.le_refl _))⟩
 rcases hq with hq | hq
 . obtain ⟨its, r', pl, hz⟩ := I.list hq
   have hlen := r'.length
   obtain ⟨o, ho, hc, n, hd⟩ := pl.isList
   exact call_list_seq p (.inl rfl) ho hc hd (fun h' c' kp e => fin its r' hz h' c' kp e) (by simp only [List.size_toArray] <;> omega)
 . obtain ⟨its, r', pl, hz⟩ := I.tuple hq
   have hlen := r'.length
   obtain ⟨o, ho, hc, n, hd⟩ := pl
   exact call_list_seq p (.inr rfl) ho hc hd (fun h' c' kp e => fin its r' hz h' c' kp e) (by simp only [List.size_toArray] <;> omega)
theorem call_tuple_of : CallR X (.type "tuple") (fun xs H Q => ∃ p ys, xs = [.ref p] /\ ((SqL X.K H p ys /\ ∀ l, H l = none -> Q (.ref l) (upd H l (.tup ys))) ∨ (SqT X.K H p ys /\ Q (.ref p) H))) := by
 intro pins s σ H xs us Q I r h
 obtain ⟨p, ys, rfl, h⟩ := h
 obtain ⟨u, rfl, rx⟩ := vals1 r
 cases rx
 rcases h with ⟨hq, q⟩ | ⟨hq, q⟩
 . obtain ⟨its, r', pl, hz⟩ := I.list hq
   have hlen := r'.length
   refine call_tuple_list pl.isList (fun h' kp => ?_) (by simp only [List.size_toArray] <;> omega)
   have I1 : Inv X pins σ H { s with heap := h' } := I.kept (t' := s.toks) kp
   have I2 : Inv X pins σ (upd H h'.objs.size (.tup ys)) { s with heap := h'.push { cls := .type "tuple", data := .seq its.toArray } } :=
     I1.laid (t' := s.toks) (fun b o e => Heap.get?_push_of_some _ e) (Nat.le_refl _) (show ObjOk X.prog X.w _ _ _ (.tup ys) from ⟨hz, its, r', IsTup.new _ _⟩)
   exact ⟨.ref h'.objs.size, _, I2, rfl, q _ (I1.hok.fresh (Nat.le_refl _))⟩
 . obtain ⟨its, r', pl, hz⟩ := I.tuple hq
   exact call_tuple_same pl ⟨.ref p, H, I, rfl, q⟩
def tyV (K : PySem.W.Frag) (T : String) (x : V) (H : Hp) : Prop := match x with
 | .str _ => T = "str"
 | .int _ => T = "int"
 | .ref p => (T = "list" /\ ∃ xs, SqL K H p xs) ∨ (T = "tuple" /\ ∃ o, K.lookup p = some o /\ o.cls = .type "tuple" /\ o.dict = none) ∨
     (T = "dict" /\ ((∃ kvs, H p = some (.dK kvs)) ∨ ∃ kvs, H p = some (.dT kvs))) ∨ (T = "set" /\ ∃ S n, H p = some (.set S n))
 | _ => False
theorem tyV_is {pins : List (Addr × Obj)} {σ : St} {H : Hp} {s : Shared} {T : String} {x : V} {v : Value} (I : Inv X pins σ H s) (r : RelV x v) (ty : tyV X.K T x H) :
   s.TypeIs v T /\ ∀ a, v = .ref a -> ∃ ob, s.heap.get? a = some ob /\ ob.dict = none := by
 cases x with
 | str z =>
   obtain ⟨t, rfl⟩ := r
   cases (show T = "str" from ty)
   exact ⟨typeIs_str s z t, fun _ e => nomatch e⟩
 | int i =>
   obtain ⟨t, rfl⟩ := r
   cases (show T = "int" from ty)
   exact ⟨typeIs_int s i t, fun _ e => nomatch e⟩
 | ref p =>
   cases r
   rcases ty with ⟨rfl, xs, hq⟩ | ⟨rfl, o, hk, hc, hd⟩ | ⟨rfl, hk⟩ | ⟨rfl, S, n, hk⟩
   . obtain ⟨its, _, pl, _⟩ := I.list hq
     refine ⟨pl.isList.typeIs, fun a e => ?_⟩
     cases e
     obtain ⟨o, n, e, c, hd, _⟩ := pl
     exact ⟨o, e, hd⟩
   . refine ⟨⟨o, I.kIn p o hk, hc⟩, fun a e => ?_⟩
     cases e
     exact ⟨o, I.kIn _ o hk, hd⟩
   . have z : ∃ o, s.heap.get? p = some o /\ o.ExactDict := by
       rcases hk with ⟨kvs, hk⟩ | ⟨kvs, hk⟩
       . obtain ⟨_, _, _, _, o, _, _, e, ex, _⟩ := I.hok p _ hk
         exact ⟨o, e, ex⟩
       . obtain ⟨_, _, _, _, o, _, _, e, ex, _⟩ := I.hok p _ hk
         exact ⟨o, e, ex⟩
     obtain ⟨o, e, ex⟩ := z
     refine ⟨⟨o, e, ex.1⟩, fun a e2 => ?_⟩
     cases e2
     exact ⟨o, e, ex.2.1⟩
   . obtain ⟨o, _, _, _, e, ex, _⟩ := I.hok p _ hk
     refine ⟨⟨o, e, ex.1⟩, fun a e2 => ?_⟩
     cases e2
     exact ⟨o, e, ex.2.1⟩
 | _ => exact False.elim ty
def tBM0 (K : PySem.W.Frag) (T : String) (r : V -> List V -> Hp -> VK -> Prop) (to : TE) : TE := fun σ H Q => to σ H fun x H1 => tyV K T x H1 /\ r x [] H1 Q
def tBM (K : PySem.W.Frag) (T : String) (r : V -> List V -> Hp -> VK -> Prop) (to : TE) (t : TA) : TE := fun σ H Q => to σ H fun x H1 => tyV K T x H1 /\ t σ H1 fun xs H2 => r x xs H2 Q
variable {o e : Expr} {es : List Expr} {to : TE} {t : TA} {name : Str} {apos cpos : Pos} {T id : String} {r : V -> List V -> Hp -> VK -> Prop}
theorem je_bm0 (pa : PlainAttrs T) (slot : Slot T name id) (hty : typeOf (.builtin id) = pure (.type "method_descriptor")) (hm : MtR X id r) (ho : JE X o to) (hbase : attributeBase o name X.env (eval o X.env) = eval o X.env := by rfl) (hline : (apos.endLine == cpos.line) = true := by rfl) : JE X (.Call (.Attribute o name apos) [] [] cpos) (tBM0 X.K T r to) := .of (by
 have ho := ho.to
 intro pins s σ H Q I h
 refine wpAny_Call_method0_late hbase hline (thn (ho pins s σ H _ I h) fun v s1 ⟨x, H1, I1, r1, ty, q1⟩ => ?_)
 obtain ⟨h1, h2⟩ := tyV_is I1 r1 ty
 exact ⟨T, id, pa, slot, hty, h1, h2, Calls.callWith_builtin rfl (PySem.evalArgs_none (hm pins s1 σ H1 x [] v [] Q I1 r1 .nil q1))⟩)
theorem pe_bm (pa : PlainAttrs T) (slot : Slot T name id) (hty : typeOf (.builtin id) = pure (.type "method_descriptor")) (hm : MtR X id r) (ho : PE X o to) (ha : PA X (e :: es) t)
   (hbase : attributeBase o name X.env (eval o X.env) = eval o X.env := by rfl)
   (hfew : ((backTo cpos (starEach (e :: es) X.env)).all (fun x => !x.1) && (backToKw cpos (keywordEach [] X.env)).all (fun x => x.1.isSome)
     && decide ((e :: es).length + ([] : List Keyword).length + (if ([] : List Keyword).isEmpty then 0 else 1) < 30)) = true := by rfl)
   (hline : (apos.endLine == cpos.line) = true := by rfl) (hs : starEach (e :: es) X.env = (false, eval e X.env) :: starEach es X.env := by rfl) (hplain : (backTo cpos (starEach es X.env)).any (·.1) = false := by rfl) :
   PE X (.Call (.Attribute o name apos) (e :: es) [] cpos) (tBM X.K T r to t) := by
 intro pins s σ H Q I h
 refine wpAny_Call_method_late hbase hfew hline rfl (thn (ho pins s σ H _ I h) fun v s1 ⟨x, H1, I1, r1, ty, q1⟩ => ?_)
 obtain ⟨h1, h2⟩ := tyV_is I1 r1 ty
 refine ⟨T, id, pa, slot, hty, h1, h2, ?_⟩
 have hA := ha cpos pins s1 σ H1 _ I1 q1
 rw [hs] at hA ⊢
 refine Calls.callWith_builtin (by show (false || (backTo cpos (starEach es X.env)).any (·.1)) = false; rw [hplain] <;> rfl) (Calls.evalArgs_plain ?_)
 exact thn hA fun us s2 ⟨vs, H2, I2, r2, q2⟩ => hm pins s2 σ H2 x vs v us Q I2 r1 r2 q2
theorem je_bm (pa : PlainAttrs T) (slot : Slot T name id) (hty : typeOf (.builtin id) = pure (.type "method_descriptor")) (hm : MtR X id r) (ho : JE X o to) (ha : JA X (e :: es) t) (hbase : attributeBase o name X.env (eval o X.env) = eval o X.env := by rfl) (hfew : ((backTo cpos (starEach (e :: es) X.env)).all (fun x => !x.1) && (backToKw cpos (keywordEach [] X.env)).all (fun x => x.1.isSome)
     && decide ((e :: es).length + ([] : List Keyword).length + (if ([] : List Keyword).isEmpty then 0 else 1) < 30)) = true := by rfl) (hline : (apos.endLine == cpos.line) = true := by rfl) (hs : starEach (e :: es) X.env = (false, eval e X.env) :: starEach es X.env := by rfl) (hplain : (backTo cpos (starEach es X.env)).any (·.1) = false := by rfl) : JE X (.Call (.Attribute o name apos) (e :: es) [] cpos) (tBM X.K T r to t) := .of (pe_bm pa slot hty hm ho.to ha.to hbase hfew hline hs hplain)
end
end L2
namespace L2
open PySem PySem.Spec PyProof.Rows
def MtM (X : Cx) (id : String) (r : V -> List V -> Hp -> VK -> Prop) : Prop :=
 ∀ (pins : List (Addr × Obj)) (s : Shared) (σ : St) (H : Hp) (x : V) (xs : List V) (v : Value) (us : List Value) (Q : VK), Inv X pins σ H s -> RelV x v -> Vals xs us -> r x xs H Q →
   wpAny (model X.prog X.w) X.A (call (.builtin id) (v :: us)) (EP X pins σ Q) X.xe s
theorem Vals.one : ∀ {x : V} {us : List Value}, Vals [x] us -> ∃ u, us = [u] /\ RelV x u
 | _, _, .cons r .nil => ⟨_, rfl, r⟩
theorem Vals.zero : ∀ {us : List Value}, Vals [] us -> us = []
 | _, .nil => rfl
theorem Vals.reverse {xs : List V} {us : List Value} (h : Vals xs us) : Vals xs.reverse us.reverse := by
 induction h with
 | nil => exact .nil
 | cons r t ih => rw [List.reverse_cons, List.reverse_cons]; exact Vals.append ih (.cons r .nil)
section
variable {X : Cx} {pins : List (Addr × Obj)} {σ : St} {H : Hp} {s : Shared} {l b : Addr} {xs ys zs : List V}
theorem Inv.lset {its its' : List Value} {n : Nat} {f : Array Value -> Array Value} {t' : Nat} (I : Inv X pins σ H s) (hH : H l = some (.lst xs))
   (e : s.heap.get? l = some { cls := .type "list", data := .seq its.toArray n }) (hf : f its.toArray = its'.toArray) (hv : Vals ys its') (hz : ys.length <= sizeLine) :
   Inv X pins σ (upd H l (.lst ys)) { s with heap := s.heap.update l (Obj.mapSeq f), toks := t' } := by
 have q := PySem.IsL.update e f
 rw [hf] at q
 refine I.write (x := l) (e := l) (by rw [hH]; exact trivial) (.inl rfl) (fun b' u hb hu => (Heap.get?_update_other s.heap (Obj.mapSeq f) (Ne.symm hb)).trans hu) ⟨_, q⟩ ?_
 exact ⟨hz, its', _, hv, q⟩
theorem Inv.lstM (I : Inv X pins σ H s) (hH : H l = some (.lst xs)) : xs.length <= sizeLine /\ ∃ (its : List Value) (n : Nat), Vals xs its /\ xs.length = its.length /\ s.heap.get? l = some { cls := .type "list", data := .seq its.toArray n } := by
 obtain ⟨z, its, n, r, e⟩ := I.hok l _ hH
 exact ⟨z, its, n, r, r.length, e⟩
theorem notLongL {n : Nat} (h : n <= sizeLine) : Builtin.List.listTooLong n = false := by
 unfold Builtin.List.listTooLong
 exact decide_eq_false (by omega)
end
section
variable {X : Cx}
def rAppend : V -> List V -> Hp -> VK -> Prop := fun x vs H Q => ∃ l xs y, x = .ref l /\ vs = [y] /\ H l = some (.lst xs) /\ xs.length < sizeLine /\ Q .non (upd H l (.lst (xs ++ [y])))
theorem mt_append : MtM X "list.append" rAppend := by
 intro pins s σ H x vs v us Q I rx rv h
 obtain ⟨l, xs, y, rfl, rfl, hH, hz, q⟩ := h
 cases rx
 obtain ⟨u, rfl, ru⟩ := rv.one
 obtain ⟨z, its, n, r, hl, e⟩ := I.lstM hH
 refine call_meets F.slot_list_append ⟨_, e, rfl⟩ F.entry_list_append (F.args_list_append_2 _ _) (PySem.list_append l its.toArray n u (by rw [List.size_toArray]; omega)) ⟨e, ?_⟩
 refine ⟨.non, _, I.lset (its' := its ++ [u]) hH e (by simp) (r.append (.cons ru .nil)) ?_, rfl, q⟩
 rw [List.length_append, List.length_singleton]
 omega
def rExtend : V -> List V -> Hp -> VK -> Prop := fun x vs H Q => ∃ l b xs zs, x = .ref l /\ vs = [.ref b] /\ H l = some (.lst xs) /\ H b = some (.lst zs) /\ xs.length + zs.length <= sizeLine /\ Q .non (upd H l (.lst (xs ++ zs)))
theorem mt_extend : MtM X "list.extend" rExtend := by
 intro pins s σ H x vs v us Q I rx rv h
 obtain ⟨l, b, xs, zs, rfl, rfl, hH, hB, hz, q⟩ := h
 cases rx
 obtain ⟨u, rfl, ru⟩ := rv.one
 cases ru
 obtain ⟨z, its, n, r, hl, e⟩ := I.lstM hH
 obtain ⟨z2, its2, n2, r2, hl2, e2⟩ := I.lstM hB
 have hsz : its.toArray.size + its2.toArray.size <= sizeLine := by rw [List.size_toArray, List.size_toArray]; omega
 have hlong : ¬ (!its.toArray.isEmpty && Builtin.List.listTooLong (its.toArray.size + its2.toArray.size)) = true := by
   rw [notLongL hsz, Bool.and_false]
   exact Bool.false_ne_true
 refine call_meets F.slot_list_extend ⟨_, e, rfl⟩ F.entry_list_extend (F.args_list_extend_2 _ _)
   (AutoSeq1.list_extend_list_list_0 l its.toArray n b its2.toArray n2 hlong (by rw [List.size_toArray]; omega) (by omega)) ⟨e, e2, ?_⟩
 refine ⟨.non, _, I.lset (its' := its ++ its2) hH e (by simp) (r.append r2) ?_, rfl, q⟩
 rw [List.length_append]
 omega
def rReverse : V -> List V -> Hp -> VK -> Prop := fun x vs H Q => ∃ l xs, x = .ref l /\ vs = [] /\ H l = some (.lst xs) /\ Q .non (upd H l (.lst xs.reverse))
theorem mt_reverse : MtM X "list.reverse" rReverse := by
 intro pins s σ H x vs v us Q I rx rv h
 obtain ⟨l, xs, rfl, rfl, hH, q⟩ := h
 cases rx
 have hus := rv.zero
 subst hus
 obtain ⟨z, its, n, r, hl, e⟩ := I.lstM hH
 refine call_meets F.slot_list_reverse ⟨_, e, rfl⟩ F.entry_list_reverse (F.args_list_reverse_1 _) (AutoSeq1.list_reverse_list_0 l its.toArray n (by rw [List.size_toArray]; omega)) ⟨e, ?_⟩
 refine ⟨.non, _, I.lset (its' := its.reverse) hH e (by simp) r.reverse ?_, rfl, q⟩
 rw [List.length_reverse]
 omega
def rClear : V -> List V -> Hp -> VK -> Prop := fun x vs H Q => ∃ l xs, x = .ref l /\ vs = [] /\ H l = some (.lst xs) /\ Q .non (upd H l (.lst []))
theorem mt_clear : MtM X "list.clear" rClear := by
 intro pins s σ H x vs v us Q I rx rv h
 obtain ⟨l, xs, rfl, rfl, hH, q⟩ := h
 cases rx
 have hus := rv.zero
 subst hus
 obtain ⟨z, its, n, r, hl, e⟩ := I.lstM hH
 refine call_meets F.slot_list_clear ⟨_, e, rfl⟩ F.entry_list_clear (F.args_list_clear_1 _) (AutoSeq1.list_clear_list_0 l its.toArray n (by rw [List.size_toArray]; omega)) ⟨e, ?_⟩
 exact ⟨.non, _, I.lset (its' := []) (ys := []) hH e rfl .nil (Nat.zero_le _), rfl, q⟩
end
section
variable {prog : Program} {w : World} {A : Around} {E : Value -> Shared -> Prop} {s : Shared}
set_option maxRecDepth 100000 in
end
section
variable {X : Cx}
end
end L2
namespace L2
open PySem PySem.Spec PyProof.Rows
section
variable {κ : Type} [DecidableEq κ]
def valV (kvs : List (κ × V)) (k : κ) : Option V := (kvs.find? fun kv => decide (kv.1 = k)).map (·.2)
def putK (kvs : List (κ × V)) (k : κ) (v : V) : List (κ × V) :=
 if (kvs.any fun kv => decide (kv.1 = k)) = true then kvs.map (fun kv => if kv.1 = k then (kv.1, v) else kv) else kvs ++ [(k, v)]
theorem qay {p : κ × V} {r : List (κ × V)} {k : κ} (e : p.1 = k) : valV (p :: r) k = some p.2 := by simp [valV, List.find?_cons, e]
theorem qaz {p : κ × V} {r : List (κ × V)} {k : κ} (e : ¬ p.1 = k) : valV (p :: r) k = valV r k := by simp [valV, List.find?_cons, e]
theorem qcl (k : κ) : ∀ kvs : List (κ × V), (kvs.any fun kv => decide (kv.1 = k)) = (valV kvs k).isSome
 | [] => rfl
 | p :: r => by
   rw [List.any_cons]
   by_cases e : p.1 = k
   . simp only [qay e, decide_eq_true e, Bool.true_or, Option.isSome_some]
   . rw [qaz e, decide_eq_false e, Bool.false_or]; exact qcl k r
theorem valV_map (k j : κ) (y : V) : ∀ kvs : List (κ × V), valV (kvs.map fun kv => if kv.1 = k then (kv.1, y) else kv) j = (valV kvs j).map fun x => if j = k then y else x
 | [] => rfl
 | p :: r => by
   have ih := valV_map k j y r
   rw [List.map_cons]
   by_cases h : p.1 = k
   . rw [if_pos h]
     by_cases e : p.1 = j
     . rw [qay (p := (p.1, y)) e, qay e, Option.map_some, if_pos (e.symm.trans h)]
     . rw [qaz (p := (p.1, y)) e, qaz e, ih]
   . rw [if_neg h]
     by_cases e : p.1 = j
     . rw [qay (p := p) e, qay e, Option.map_some, if_neg (fun z => h (e.trans z))]
     . rw [qaz (p := p) e, qaz e, ih]
theorem valV_snoc (k j : κ) (y : V) : ∀ kvs : List (κ × V), valV kvs k = none -> valV (kvs ++ [(k, y)]) j = if j = k then some y else valV kvs j
 | [], _ => by
   by_cases e : k = j
   . rw [if_pos e.symm]; exact qay (p := (k, y)) e
   . rw [if_neg (fun z => e z.symm)]; exact qaz (p := (k, y)) e
 | p :: r, hn => by
   rw [List.cons_append]
   have hk : ¬ p.1 = k := fun z => by rw [qay z] at hn; cases hn
   rw [qaz hk] at hn
   have ih := valV_snoc k j y r hn
   by_cases e : p.1 = j
   . rw [qay e, qay e, if_neg (fun z => hk (e.trans z))]
   . rw [qaz e, qaz e, ih]
theorem qbx (kvs : List (κ × V)) (k j : κ) (y : V) : valV (putK kvs k y) j = if j = k then some y else valV kvs j := by
 unfold putK
 by_cases a : (kvs.any fun kv => decide (kv.1 = k)) = true
 . rw [if_pos a, valV_map]
   rw [qcl] at a
   by_cases e : j = k
   . obtain ⟨x, hx⟩ := Option.isSome_iff_exists.mp a
     rw [if_pos e, e, hx, Option.map_some, if_pos rfl]
   . rw [if_neg e]
     cases valV kvs j with
     | none => rfl
     | some x => rw [Option.map_some, if_neg e]
 . rw [if_neg a]
   refine valV_snoc k j y kvs ?_
   rw [qcl] at a
   cases q : valV kvs k with
   | none => rfl
   | some x => rw [q] at a; exact (a rfl).elim
theorem qcu (kvs : List (κ × V)) (k : κ) (v : V) : (putK kvs k v).length <= kvs.length + 1 := by
 unfold putK
 split
 . rw [List.length_map]; omega
 . rw [List.length_append, List.length_cons, List.length_nil]; omega
theorem putK_new {kvs : List (κ × V)} {k : κ} (v : V) (h : valV kvs k = none) : putK kvs k v = kvs ++ [(k, v)] := by
 unfold putK
 rw [qcl, h]
 exact if_neg (by decide)
theorem RelO.isSome_eq {o : Option V} {u : Option Value} (r : RelO o u) : o.isSome = u.isSome := by
 cases o with
 | none => cases u with
   | none => rfl
   | some _ => exact (show False from r).elim
 | some _ => cases u with
   | none => exact (show False from r).elim
   | some _ => rfl
theorem RelO.getD {o : Option V} {u : Option Value} {d : V} {d' : Value} (r : RelO o u) (rd : RelV d d') : RelV (o.getD d) (u.getD d') := by
 cases o with
 | none => cases u with
   | none => exact rd
   | some _ => exact (show False from r).elim
 | some _ => cases u with
   | none => exact (show False from r).elim
   | some _ => exact r
theorem KV.val {kvs : List (κ × V)} {vs : List (κ × Value)} (r : KV kvs vs) (k : κ) : RelO (valV kvs k) (valueAt vs k) := by
 unfold KV at r
 induction r with
 | nil => exact True.intro
 | @cons p q ps qs h t ih =>
   obtain ⟨h1, h2⟩ := h
   by_cases e : p.1 = k
   . have e' : q.1 = k := h1.symm.trans e
     have b : valueAt (q :: qs) k = some q.2 := by simp [valueAt, List.find?_cons, e']
     rw [qay e, b]; exact h2
   . have e' : ¬ q.1 = k := fun z => e (h1.trans z)
     have b : valueAt (q :: qs) k = valueAt qs k := by simp [valueAt, List.find?_cons, e']
     rw [qaz e, b]; exact ih
theorem KV.any {kvs : List (κ × V)} {vs : List (κ × Value)} (r : KV kvs vs) (k : κ) : (kvs.any fun kv => decide (kv.1 = k)) = vs.any fun kv => decide (kv.1 = k) := by
 unfold KV at r
 induction r with
 | nil => rfl
 | cons h t ih => rw [List.any_cons, List.any_cons, ih, h.1]
theorem KV.repl {kvs : List (κ × V)} {vs : List (κ × Value)} (r : KV kvs vs) (k : κ) {y : V} {u : Value} (ry : RelV y u) :
   KV (kvs.map fun kv => if kv.1 = k then (kv.1, y) else kv) (vs.map fun kv => if kv.1 = k then (kv.1, u) else kv) := by
 unfold KV at r ⊢
 induction r with
 | nil => exact .nil
 | @cons p q ps qs h t ih =>
   rw [List.map_cons, List.map_cons]
   refine .cons ?_ ih
   obtain ⟨h1, h2⟩ := h
   by_cases e : p.1 = k
   . rw [if_pos e, if_pos (h1.symm.trans e)]; exact ⟨h1, ry⟩
   . rw [if_neg e, if_neg (fun z => e (h1.trans z))]; exact ⟨h1, h2⟩
theorem KV.put {kvs : List (κ × V)} {vs : List (κ × Value)} (r : KV kvs vs) (k : κ) {y : V} {u : Value} (ry : RelV y u) : KV (putK kvs k y) (stored vs k u) := by
 unfold putK stored
 rw [r.any k]
 by_cases e : (vs.any fun kv => decide (kv.1 = k)) = true
 . rw [if_pos e, if_pos e]; exact r.repl k ry
 . rw [if_neg e, if_neg e]; exact Paired.snoc r ⟨rfl, ry⟩
theorem KV.length {kvs : List (κ × V)} {vs : List (κ × Value)} (r : KV kvs vs) : kvs.length = vs.length := Paired.length r
end
theorem kV_is {P : Program} {w : World} {k : Key} {u : Value} (r : RelV (kV k) u) : (mixKind P w).is k u = true := by
 cases k with
 | inl i => obtain ⟨t, e⟩ := (show ∃ t, u = Value.int i t from r); subst e; exact mixKind_int P w i t
 | inr x => obtain ⟨t, e⟩ := (show ∃ t, u = Value.str x t from r); subst e; exact mixKind_str P w x t
theorem items_are {P : Program} {w : World} : ∀ {ks : List Key} {us : List Value}, Vals (ks.map kV) us -> ItemsAre (mixKind P w) ks us
 | [], _, r => by rw [List.map_nil] at r; cases r; exact .nil
 | k :: ks, _, r => by
   rw [List.map_cons] at r
   cases r with
   | cons h t => exact .cons (kV_is h) (items_are t)
abbrev KT (H : Hp) : List (List Key × V) -> List (List Key × Addr × Value) -> Prop := Paired fun p q => p.1 = q.1 /\ H q.2.1 = some (.tup (p.1.map kV)) /\ RelV p.2 q.2.2
theorem KT.val {H : Hp} {kvs : List (List Key × V)} {xs : List (List Key × Addr × Value)} (r : KT H kvs xs) (k : List Key) : RelO (valV kvs k) ((atKey xs k).map (·.2)) := by
 induction r with
 | nil => exact True.intro
 | @cons p q ps qs h t ih =>
   obtain ⟨h1, _, h2⟩ := h
   by_cases e : p.1 = k
   . have e' : q.1 = k := h1.symm.trans e
     have b : atKey (q :: qs) k = some q.2 := by simp [atKey, List.find?_cons, e']
     rw [qay e, b]; exact h2
   . have e' : ¬ q.1 = k := fun z => e (h1.trans z)
     have b : atKey (q :: qs) k = atKey qs k := by simp [atKey, List.find?_cons, e']
     rw [qaz e, b]; exact ih
theorem KT.repl {H : Hp} {kvs : List (List Key × V)} {xs : List (List Key × Addr × Value)} (r : KT H kvs xs) (k : List Key) {y : V} {u : Value} (ry : RelV y u) :
   KT H (kvs.map fun kv => if kv.1 = k then (kv.1, y) else kv) (xs.map (putAt k u)) := by
 induction r with
 | nil => exact .nil
 | @cons p q ps qs h t ih =>
   rw [List.map_cons, List.map_cons]
   refine .cons ?_ ih
   obtain ⟨h1, h2, h3⟩ := h
   unfold putAt
   by_cases e : p.1 = k
   . rw [if_pos e, if_pos (h1.symm.trans e)]; exact ⟨h1, h2, ry⟩
   . rw [if_neg e, if_neg (fun z => e (h1.trans z))]; exact ⟨h1, h2, h3⟩
theorem KT.put {H : Hp} {kvs : List (List Key × V)} {xs : List (List Key × Addr × Value)} (r : KT H kvs xs) (k : List Key) {b : Addr} {y : V} {u : Value} (hb : H b = some (.tup (k.map kV))) (ry : RelV y u) :
   KT H (putK kvs k y) (storedH xs k b u) := by
 have e : (kvs.any fun kv => decide (kv.1 = k)) = (atKey xs k).isSome := by
   rw [qcl, (r.val k).isSome_eq, Option.isSome_map]
 unfold putK storedH
 rw [e]
 by_cases q : (atKey xs k).isSome = true
 . rw [if_pos q, if_pos q]; exact r.repl k ry
 . rw [if_neg q, if_neg q]; exact Paired.snoc r ⟨rfl, hb, ry⟩
theorem KT.keeps {H H' : Hp} {kvs : List (List Key × V)} {xs : List (List Key × Addr × Value)} (r : KT H kvs xs) (ht : ∀ b ys, H b = some (.tup ys) -> H' b = some (.tup ys)) : KT H' kvs xs :=
 Paired.mapP r fun _ _ z => ⟨z.1, ht _ _ z.2.1, z.2.2⟩
section
variable {P : Program} {w : World} {H : Hp} {h : Heap} {a : Addr}
theorem rd_of {u : HO} (ok : HOk P w H h) (e : Rd H a u) : ObjOk P w H h a u := e.ok ok
theorem dk_rd {kvs : List (Key × V)} (ok : HOk P w H h) (e : Rd H a (.dK kvs)) : kvs.length <= sizeLine /\ (a == sysModules) = false /\ ∃ vs, KV kvs vs /\ h.DictOf (mixKind P w) a vs :=
 show ObjOk P w H h a (.dK kvs) from rd_of ok e
theorem dk_of {kvs : List (Key × V)} (ok : HOk P w H h) (e : H a = some (.dK kvs)) : kvs.length <= sizeLine /\ (a == sysModules) = false /\ ∃ vs, KV kvs vs /\ h.DictOf (mixKind P w) a vs := dk_rd ok (.inl e)
theorem key_of {ks : List Key} (ok : HOk P w H h) (e : H a = some (.tup (ks.map kV))) : (tupleKind (mixKind P w)).is h ks a := by
 obtain ⟨_, its, r, o, h1, h2, n, h3⟩ := (show ObjOk P w H h a (.tup (ks.map kV)) from ok a _ e)
 exact ⟨o, its.toArray, n, h1, h2, h3, by simpa using items_are r⟩
theorem dt_rd {kvs : List (List Key × V)} (ok : HOk P w H h) (e : Rd H a (.dT kvs)) : kvs.length <= sizeLine /\ (a == sysModules) = false ∧
   ∃ xs, KT H kvs xs /\ h.DictOfH (tupleKind (mixKind P w)) a xs := by
 obtain ⟨z, y, xs, r, o, es, ep, h1, h2, h3, h4, h5⟩ := (show ObjOk P w H h a (.dT kvs) from rd_of ok e)
 refine ⟨z, y, xs, r, o, es, ep, h1, h2, h3, h4, fun x hx => ?_, h5⟩
 have all : ∀ {l : List (List Key × V)} {m : List (List Key × Addr × Value)}, KT H l m -> ∀ x ∈ m, (tupleKind (mixKind P w)).is h x.1 x.2.1 := by
   intro l m q
   induction q with
   | nil => intro x hx; exact nomatch hx
   | @cons p q ps qs hq t ih =>
     intro x hx
     rcases List.mem_cons.mp hx with e | hx
     . subst e
       exact key_of ok (by rw [← hq.1]; exact hq.2.1)
     . exact ih x hx
 exact all r x hx
theorem dt_of {kvs : List (List Key × V)} (ok : HOk P w H h) (e : H a = some (.dT kvs)) : kvs.length <= sizeLine /\ (a == sysModules) = false ∧
   ∃ xs, KT H kvs xs /\ h.DictOfH (tupleKind (mixKind P w)) a xs := dt_rd ok (.inl e)
end
def DGet (H : Hp) (a : Addr) (y : V) (r : Option V) : Prop :=
 (∃ kvs k, Rd H a (.dK kvs) /\ y = kV k /\ r = valV kvs k) ∨ ∃ kvs k b, Rd H a (.dT kvs) /\ y = .ref b /\ H b = some (.tup (k.map kV)) /\ r = valV kvs k
def DPut (H : Hp) (a : Addr) (y v : V) (H' : Hp) : Prop :=
 (∃ kvs k, H a = some (.dK kvs) /\ y = kV k /\ kvs.length < sizeLine /\ H' = upd H a (.dK (putK kvs k v))) ∨
 ∃ kvs k b, H a = some (.dT kvs) /\ y = .ref b /\ H b = some (.tup (k.map kV)) /\ kvs.length < sizeLine /\ H' = upd H a (.dT (putK kvs k v))
theorem DGet.k {H : Hp} {a : Addr} {kvs : List (Key × V)} {k : Key} (e : H a = some (.dK kvs)) : DGet H a (kV k) (valV kvs k) := .inl ⟨kvs, k, .inl e, rfl, rfl⟩
theorem DPut.k {H : Hp} {a : Addr} {kvs : List (Key × V)} {k : Key} {v : V} (e : H a = some (.dK kvs)) (hl : kvs.length < sizeLine) : DPut H a (kV k) v (upd H a (.dK (putK kvs k v))) := .inl ⟨kvs, k, e, rfl, hl, rfl⟩
theorem DPut.t {H : Hp} {a b : Addr} {kvs : List (List Key × V)} {k : List Key} {v : V} (e : H a = some (.dT kvs)) (eb : H b = some (.tup (k.map kV))) (hl : kvs.length < sizeLine) :
   DPut H a (.ref b) v (upd H a (.dT (putK kvs k v))) := .inr ⟨kvs, k, b, e, rfl, eb, hl, rfl⟩
section
variable {X : Cx} {pins : List (Addr × Obj)} {σ : St} {H : Hp} {s : Shared} {a : Addr} {y v : V} {u r : Value} {o : Option V} {A : Around} {E : Value -> Shared -> Prop}
theorem Inv.big (I : Inv X pins σ H s) : sysModules < s.heap.objs.size := by
 have h : mainGlobals < s.heap.objs.size := (I.mod.glob.keeps I.bk).lt
 exact Nat.lt_trans (by decide) h
theorem d_getItem {Q : Value -> Shared -> Prop} (hu : A.units + 1 < cLine) (I : Inv X pins σ H s) (g : DGet H a y (some v)) (ry : RelV y u) (h : ∀ w' s', Inv X pins σ H s' -> RelV v w' -> Q w' s') :
   wpAny (model X.prog X.w) A (getItem (.ref a) u) Q E s := by
 rcases g with ⟨kvs, k, e, ey, l⟩ | ⟨kvs, k, b, e, ey, eb, l⟩
 . subst ey
   obtain ⟨z, hd, vs, rel, dd⟩ := dk_rd I.hok e
   obtain ⟨w', hw, rw'⟩ := RelO.some_of (v := v) (o := valueAt vs k) (by rw [l]; exact rel.val k)
   exact wpAny_getItem_of (kV_is ry) dd.mapOf hw (h w' _ (I.tok _) rw')
 . subst ey
   cases (show u = Value.ref b from ry)
   obtain ⟨z, hd, xs, rel, dd⟩ := dt_rd I.hok e
   obtain ⟨w', hw, rw'⟩ := RelO.some_of (v := v) (o := (atKey xs k).map (·.2)) (by rw [l]; exact rel.val k)
   obtain ⟨p, hp, hp2⟩ := Option.map_eq_some_iff.mp hw
   refine wpAny_getItem_heap (tupleKind_room_in1 hu) (key_of I.hok eb) dd hp ?_
   rw [hp2]
   exact h w' _ (I.tok _) rw'
theorem d_in {Q : Value -> Shared -> Prop} (hu : A.units + 1 < cLine) (I : Inv X pins σ H s) (g : DGet H a y o) (ry : RelV y u) (h : ∀ s', Inv X pins σ H s' -> Q (.bool o.isSome) s') :
   wpAny (model X.prog X.w) A (compareOp .In u (.ref a)) Q E s := by
 rcases g with ⟨kvs, k, e, ey, l⟩ | ⟨kvs, k, b, e, ey, eb, l⟩
 . subst ey
   obtain ⟨z, hd, vs, rel, dd⟩ := dk_rd I.hok e
   refine wpAny_in_of (kV_is ry) hd dd.mapOf ?_
   rw [← (rel.val k).isSome_eq, ← l]
   exact h _ (I.tok _)
 . subst ey
   cases (show u = Value.ref b from ry)
   obtain ⟨z, hd, xs, rel, dd⟩ := dt_rd I.hok e
   refine wpAny_in_heap (tupleKind_room_in1 hu) (key_of I.hok eb) hd dd ?_
   have q := (rel.val k).isSome_eq
   rw [Option.isSome_map] at q
   rw [← q, ← l]
   exact h _ (I.tok _)
theorem d_notIn {Q : Value -> Shared -> Prop} (hu : A.units + 1 < cLine) (I : Inv X pins σ H s) (g : DGet H a y o) (ry : RelV y u) (h : ∀ s', Inv X pins σ H s' -> Q (.bool (!o.isSome)) s') :
   wpAny (model X.prog X.w) A (compareOp .NotIn u (.ref a)) Q E s := by
 rcases g with ⟨kvs, k, e, ey, l⟩ | ⟨kvs, k, b, e, ey, eb, l⟩
 . subst ey
   obtain ⟨z, hd, vs, rel, dd⟩ := dk_rd I.hok e
   refine wpAny_notIn_of (kV_is ry) hd dd.mapOf ?_
   rw [← (rel.val k).isSome_eq, ← l]
   exact h _ (I.tok _)
 . subst ey
   cases (show u = Value.ref b from ry)
   obtain ⟨z, hd, xs, rel, dd⟩ := dt_rd I.hok e
   refine wpAny_notIn_heap (tupleKind_room_in1 hu) (key_of I.hok eb) hd dd ?_
   have q := (rel.val k).isSome_eq
   rw [Option.isSome_map] at q
   rw [← q, ← l]
   exact h _ (I.tok _)
theorem d_write {h' : Heap} {t' : Nat} {ob : HO} (I : Inv X pins σ H s) (mu : Mut (H a)) (hs : Heap.SameBut a s.heap h') (he : ∃ q, h'.get? a = some q) (new : ObjOk X.prog X.w (upd H a ob) h' a ob) :
   Inv X pins σ (upd H a ob) { s with heap := h', toks := t' } :=
 I.write (x := a) (e := a) mu (.inl rfl) (fun b q hb z => (hs.2 b hb).trans z) he new
theorem dk_new {P : Program} {w : World} {H' : Hp} {h' : Heap} {kvs : List (Key × V)} {vs : List (Key × Value)} (z : kvs.length <= sizeLine) (hd : (a == sysModules) = false) (rel : KV kvs vs) (dd : h'.DictOf (mixKind P w) a vs) :
   ObjOk P w H' h' a (.dK kvs) := ⟨z, hd, vs, rel, dd⟩
theorem d_setItem {H' : Hp} {Q : Unit -> Shared -> Prop} (hu : A.units + 1 < cLine) (I : Inv X pins σ H s) (g : DPut H a y v H') (ry : RelV y u) (rv : RelV v r) (h : ∀ s', Inv X pins σ H' s' -> Q () s') :
   wpAny (model X.prog X.w) A (setItem (.ref a) u r) Q E s := by
 rcases g with ⟨kvs, k, e, ey, l, eH⟩ | ⟨kvs, k, b, e, ey, eb, l, eH⟩
 . subst ey eH
   obtain ⟨z, hd, vs, rel, dd⟩ := dk_of I.hok e
   have hz : vs.length <= sizeLine := by rw [← rel.length]; exact z
   have hl : (putK kvs k v).length <= sizeLine := by have := qcu kvs k v; omega
   refine wpAny_setItem_pairs (hsz := hz) (kV_is ry) dd fun h' dd' hs => h _ ?_
   have he : ∃ q, h'.get? a = some q := let ⟨q, _, _, hq, _⟩ := dd'; ⟨q, hq⟩
   exact d_write I (by rw [e]; exact True.intro) hs he (dk_new hl hd (rel.put k rv) dd')
 . subst ey eH
   cases (show u = Value.ref b from ry)
   obtain ⟨z, hd, xs, rel, dd⟩ := dt_of I.hok e
   have hz : xs.length <= sizeLine := by rw [← Paired.length rel]; exact z
   have hl : (putK kvs k v).length <= sizeLine := by have := qcu kvs k v; omega
   refine wpAny_setItem_heap (hsz := hz) (tupleKind_room_in1 hu) (key_of I.hok eb) dd fun h' dd' hs => h _ ?_
   obtain ⟨q, es, ep, hq, h2, h3, h4, _, h5⟩ := dd'
   refine d_write I (by rw [e]; exact True.intro) hs ⟨q, hq⟩ ⟨hl, hd, _, (rel.put k eb rv).keeps fun c ys ec => ?_, q, es, ep, hq, h2, h3, h4, h5⟩
   rw [qah (ne_of ec e (fun z => nomatch z))]
   exact ec
end
section
variable {X : Cx} {pins : List (Addr × Obj)} {σ : St} {H : Hp} {s : Shared} {a : Addr} {kvs : List (Key × V)} {k : Key} {u : Value} {A : Around} {E : Value -> Shared -> Prop}
end
def NoSl (i : Expr) : Prop := ∀ ov iv, subscripted i false ov iv = operate [ov, iv] (getItem ov iv)
theorem subD_of {prog : Program} {w : World} {A : Around} {E : Value -> Shared -> Prop} {s : Shared} {env : Env} {value slice : Expr} {pos : Pos} {T id : String} {Q : Value -> Shared -> Prop}
   (hl : typeLookup (.type T) "__getitem__" = pure (some (.builtin id))) (hs : NoSl slice)
   (h : wpAny (model prog w) A (eval value env) (fun o s₁ => wpAny (model prog w) A (eval slice env) (fun i s₂ => s₂.TypeIs o T /\ wpAny (model prog w) A (getItem o i) Q E s₂) E s₁) E s) :
   wpAny (model prog w) A (eval (.Subscript value slice pos) env) Q E s := by
 refine Subscript_ (wpAny_mono h (fun o s₁ h₁ => wpAny_mono h₁ (fun i s₂ h₂ => ?_) fun _ _ x => x) fun _ _ x => x)
 obtain ⟨hT, h₂⟩ := h₂
 unfold subscriptTail
 refine wpAny_bind ?_
 rw [getitemInPython_of_ne hT.not_modules]
 refine wpAny_bind (wpAny_specialOf hT hl ?_)
 have fin : wpAny (model prog w) A (subscripted slice false o i) (fun r s₃ => wpAny (model prog w) A (letTemporaryGo value o r >>= fun _ => pure r) Q E s₃) E s₂ := by
   rw [hs o i]
   exact wpAny_operating (wpAny_mono h₂ (fun r s₃ h₃ => wpAny_bind (wpAny_letTemporaryGo (wpAny_pure h₃))) fun _ _ x => x)
 first
   | exact wpAny_pure (wpAny_bind fin)
   | exact wpAny_bind (wpAny_pure (wpAny_bind fin))
   | exact wpAny_bind fin
theorem dict_typeIs {X : Cx} {pins : List (Addr × Obj)} {σ : St} {H : Hp} {s : Shared} {a : Addr} {y : V} {o : Option V} (I : Inv X pins σ H s) (g : DGet H a y o) : s.TypeIs (.ref a) "dict" := by
 rcases g with ⟨kvs, k, e, _, _⟩ | ⟨kvs, k, b, e, _, _, _⟩
 . obtain ⟨_, _, vs, _, dd⟩ := dk_rd I.hok e
   exact dd.typeIs
 . obtain ⟨_, _, xs, _, dd⟩ := dt_rd I.hok e
   exact dd.typeIs
def tDGet (td ty : TE) : TE := fun σ H Q => td σ H fun x H1 => ty σ H1 fun y H2 => ∃ a v, x = .ref a /\ DGet H2 a y (some v) /\ Q v H2
def tDIn (ty td : TE) : TE := fun σ H Q => ty σ H fun y H1 => td σ H1 fun x H2 => ∃ a o, x = .ref a /\ DGet H2 a y o /\ Q (.bl o.isSome) H2
def tDNotIn (ty td : TE) : TE := fun σ H Q => ty σ H fun y H1 => td σ H1 fun x H2 => ∃ a o, x = .ref a /\ DGet H2 a y o /\ Q (.bl (!o.isSome)) H2
def sDPut (td ty tv : TE) : TS := fun D σ H => tv σ H fun v H1 => td σ H1 fun x H2 => ty σ H2 fun y H3 => ∃ a H4, x = .ref a /\ DPut H3 a y v H4 /\ D.nx σ H4
section
variable {X : Cx} {o i e value : Expr} {pos pos' tpos : Pos} {td ty tv : TE}
theorem qbd (hu : X.A.units + 1 < cLine) (ho : JE X o td) (hi : JE X i ty) (hs : NoSl i) : JE X (.Subscript o i pos) (tDGet td ty) := .of (by
 have ho := ho.to
 have hi := hi.to
 intro pins s σ H Q I h
 refine subD_of PySem.F.slot_dict_getitem.lookup hs (thn (ho pins s σ H _ I h) fun u s1 ⟨x, H1, I1, rx, q1⟩ => thn (hi pins s1 σ H1 _ I1 q1) fun iv s2 ⟨y, H2, I2, ry, a, v, ex, g, q2⟩ => ?_)
 subst ex
 obtain rfl : u = Value.ref a := rx
 exact ⟨dict_typeIs I2 g, d_getItem hu I2 g ry fun w' s3 I3 rw' => ⟨v, H2, I3, rw', q2⟩⟩)
theorem jc_din (hu : X.A.units + 1 < cLine) (hi : JE X i ty) (ho : JE X o td) : JC X .In i o (tDIn ty td) := .of (by
 have hi := hi.to
 have ho := ho.to
 intro pins s σ H Q I h
 refine thn (hi pins s σ H _ I h) fun iv s1 ⟨y, H1, I1, ry, q1⟩ => thn (ho pins s1 σ H1 _ I1 q1) fun u s2 ⟨x, H2, I2, rx, a, ov, ex, g, q2⟩ => ?_
 subst ex
 obtain rfl : u = Value.ref a := rx
 exact d_in hu I2 g ry fun s3 I3 => ⟨.bl ov.isSome, H2, I3, rfl, q2⟩)
theorem jc_dnotin (hu : X.A.units + 1 < cLine) (hi : JE X i ty) (ho : JE X o td) : JC X .NotIn i o (tDNotIn ty td) := .of (by
 have hi := hi.to
 have ho := ho.to
 intro pins s σ H Q I h
 refine thn (hi pins s σ H _ I h) fun iv s1 ⟨y, H1, I1, ry, q1⟩ => thn (ho pins s1 σ H1 _ I1 q1) fun u s2 ⟨x, H2, I2, rx, a, ov, ex, g, q2⟩ => ?_
 subst ex
 obtain rfl : u = Value.ref a := rx
 exact d_notIn hu I2 g ry fun s3 I3 => ⟨.bl (!ov.isSome), H2, I3, rfl, q2⟩)
theorem qbi (hu : X.A.units + 1 < cLine) (ho : JE X o td) (hi : JE X i ty) (hv : JE X value tv) (hs : swapsWith value (some (.Subscript o i pos')) pos.line X.env = pure false) : JS X (.Assign [.Subscript o i pos'] value pos) (sDPut td ty tv) := .of (by
 have ho := ho.to
 have hi := hi.to
 have hv := hv.to
 intro pins s σ H D I h
 refine wpAny_Assign_Subscript (thn (hv pins s σ H _ I h) fun r s1 ⟨v, H1, I1, rv, q1⟩ => thn (ho pins s1 σ H1 _ I1 q1) fun u s2 ⟨x, H2, I2, rx, q2⟩ => thn (hi pins s2 σ H2 _ I2 q2) fun iv s3 ⟨y, H3, I3, ry, a, H4, ex, g, q3⟩ => ?_) hs
 subst ex
 obtain rfl : u = Value.ref a := rx
 exact d_setItem hu I3 g ry rv fun s4 I4 => ⟨σ, H4, I4, q3⟩)
end
theorem dk_empty {P : Program} {w : World} {H : Hp} (h : Heap) (hb : sysModules < h.objs.size) : ObjOk P w H (h.push { cls := .type "dict", data := .dict #[] }) h.objs.size (.dK []) :=
 ⟨Nat.zero_le _, beq_eq_false_iff_ne.mpr (Ne.symm (Nat.ne_of_lt hb)), [], .nil, Heap.DictOf.new h⟩
theorem dt_empty {P : Program} {w : World} {H : Hp} (h : Heap) (hb : sysModules < h.objs.size) : ObjOk P w H (h.push { cls := .type "dict", data := .dict #[] }) h.objs.size (.dT []) :=
 ⟨Nat.zero_le _, beq_eq_false_iff_ne.mpr (Ne.symm (Nat.ne_of_lt hb)), [], .nil, _, #[], 0, Heap.get?_push_size _ rfl, ⟨rfl, rfl, rfl⟩, rfl, rfl, List.nodup_nil⟩
def tDNewK : TE := fun _ H Q => ∀ p, H p = none -> Q (.ref p) (upd H p (.dK []))
def tDNewT : TE := fun _ H Q => ∀ p, H p = none -> Q (.ref p) (upd H p (.dT []))
section
variable {X : Cx} {pos : Pos}
theorem pe_dnewK : PE X (.Dict [] [] pos) tDNewK := fun pins s σ H Q I h =>
 wpAny_Dict_empty ⟨.ref s.heap.objs.size, _, I.laid (a := s.heap.objs.size) (o := .dK []) (t' := s.toks) (fun _ _ q => Heap.get?_push_of_some _ q) (Nat.le_refl _) (dk_empty s.heap I.big), rfl, h _ (I.hok.fresh (Nat.le_refl _))⟩
theorem qch  : JE X (.Dict [] [] pos) tDNewK := .of (pe_dnewK )
theorem pe_dnewT : PE X (.Dict [] [] pos) tDNewT := fun pins s σ H Q I h =>
 wpAny_Dict_empty ⟨.ref s.heap.objs.size, _, I.laid (a := s.heap.objs.size) (o := .dT []) (t' := s.toks) (fun _ _ q => Heap.get?_push_of_some _ q) (Nat.le_refl _) (dt_empty s.heap I.big), rfl, h _ (I.hok.fresh (Nat.le_refl _))⟩
theorem je_dnewT  : JE X (.Dict [] [] pos) tDNewT := .of (pe_dnewT )
end
def tPairs : List (TE × TE) -> St -> Hp -> (List (V × V) -> Hp -> Prop) -> Prop
 | [], _, H, Q => Q [] H
 | (tk, tv) :: r, σ, H, Q => tk σ H fun x H1 => tv σ H1 fun y H2 => tPairs r σ H2 fun ps H3 => Q ((x, y) :: ps) H3
abbrev VV : List (V × V) -> List (Value × Value) -> Prop := Paired fun p q => RelV p.1 q.1 /\ RelV p.2 q.2
def PPs (X : Cx) (pos : Pos) (keys : List (Option Expr)) (values : List Expr) (trs : List (TE × TE)) : Prop :=
 ∀ (pins : List (Addr × Obj)) (s : Shared) (σ : St) (H : Hp) (Q : List (V × V) -> Hp -> Prop), Inv X pins σ H s -> tPairs trs σ H Q →
   wpAny (model X.prog X.w) X.A (evalPairs (pairTrees keys values X.env pos)) (fun vs s' => ∃ ps H', Inv X pins σ H' s' /\ VV ps vs /\ Q ps H') X.xe s
@[irreducible] def JPs (X : Cx) (pos : Pos) (keys : List (Option Expr)) (values : List Expr) (trs : List (TE × TE)) : Prop := PPs X pos keys values trs
theorem JPs.of {X : Cx} {pos : Pos} {keys : List (Option Expr)} {values : List Expr} {trs : List (TE × TE)} (h : PPs X pos keys values trs) : JPs X pos keys values trs := by unfold JPs; exact h
theorem JPs.to {X : Cx} {pos : Pos} {keys : List (Option Expr)} {values : List Expr} {trs : List (TE × TE)} (h : JPs X pos keys values trs) : PPs X pos keys values trs := by unfold JPs at h; exact h
theorem jps_nil {X : Cx} {pos : Pos} : JPs X pos [] [] [] := .of (by
 exact fun pins s σ H Q I h => pairTrees_nil_walk ⟨[], H, I, .nil, h⟩)
theorem pps_cons {X : Cx} {pos : Pos} {k v : Expr} {ks : List (Option Expr)} {vs : List Expr} {tk tv : TE} {trs : List (TE × TE)} (hk : PE X k tk) (hv : PE X v tv) (hr : PPs X pos ks vs trs) :
   PPs X pos (some k :: ks) (v :: vs) ((tk, tv) :: trs) := fun pins s σ H Q I h =>
 pairTrees_cons_walk (thn (hk pins s σ H _ I h) fun u s1 ⟨x, H1, I1, rx, q1⟩ => thn (hv pins s1 σ H1 _ I1 q1) fun w2 s2 ⟨y, H2, I2, ry, q2⟩ =>
   thn (hr pins s2 σ H2 _ I2 q2) fun ws s3 ⟨ps, H3, I3, rel, q3⟩ => ⟨(x, y) :: ps, H3, I3, .cons ⟨rx, ry⟩ rel, q3⟩)
theorem jps_cons {X : Cx} {pos : Pos} {k v : Expr} {ks : List (Option Expr)} {vs : List Expr} {tk tv : TE} {trs : List (TE × TE)} (hk : JE X k tk) (hv : JE X v tv) (hr : JPs X pos ks vs trs) : JPs X pos (some k :: ks) (v :: vs) ((tk, tv) :: trs) := .of (pps_cons hk.to hv.to hr.to)
def mergeK (kvs more : List (Key × V)) : List (Key × V) := more.foldl (fun acc kv => putK acc kv.1 kv.2) kvs
theorem KV.merge : ∀ {more : List (Key × V)} {rs : List (Key × Value)} {kvs : List (Key × V)} {vs : List (Key × Value)}, KV more rs -> KV kvs vs -> KV (mergeK kvs more) (merged vs rs) := by
 intro more rs kvs vs r
 unfold KV at r
 induction r generalizing kvs vs with
 | nil => intro q; exact q
 | @cons p q ps qs h t ih =>
   intro r0
   have e : KV (putK kvs p.1 p.2) (stored vs q.1 q.2) := by
     have := r0.put p.1 h.2
     rw [← h.1]; exact this
   exact ih e
theorem qcv : ∀ (more kvs : List (Key × V)), (mergeK kvs more).length <= kvs.length + more.length
 | [], kvs => by show kvs.length <= kvs.length + 0; omega
 | p :: r, kvs => by
   have h1 := qcv r (putK kvs p.1 p.2)
   have h2 := qcu kvs p.1 p.2
   show (mergeK (putK kvs p.1 p.2) r).length <= _
   rw [List.length_cons]; omega
theorem carries_of {P : Program} {w : World} : ∀ {kvs : List (Key × V)} {ws : List (Value × Value)}, VV (kvs.map fun kv => (kV kv.1, kv.2)) ws -> ∃ rs, Carries (mixKind P w) ws rs /\ KV kvs rs
 | [], _, r => by rw [List.map_nil] at r; cases r; exact ⟨[], True.intro, .nil⟩
 | p :: kvs, _, r => by
   rw [List.map_cons] at r
   cases r with
   | @cons a b as bs h t =>
     obtain ⟨rs, c, q⟩ := carries_of (P := P) (w := w) t
     obtain ⟨b1, b2⟩ := b
     exact ⟨(p.1, b2) :: rs, ⟨kV_is h.1, rfl, c⟩, .cons ⟨rfl, h.2⟩ q⟩
def tDisp (trs : List (TE × TE)) : TE := fun σ H Q => ∀ p, H p = none -> tPairs trs σ (upd H p (.dK [])) fun ps H2 => H2 p = some (.dK []) /\ ∃ kvs : List (Key × V), ps = kvs.map (fun kv => (kV kv.1, kv.2)) /\ kvs.length <= 15 /\ Q (.ref p) (upd H2 p (.dK (mergeK [] kvs)))
theorem je_disp {X : Cx} {pos : Pos} {keys : List (Option Expr)} {values : List Expr} {trs : List (TE × TE)} (h : JPs X pos keys values trs) (hall : keys.all (·.isSome) = true) (hl : keys.length = values.length) (h0 : keys ≠ []) (h15 : keys.length <= 15) : JE X (.Dict keys values pos) (tDisp trs) := .of (by
 have h := h.to
 intro pins s σ H Q I q
 have hn := I.hok.fresh (Nat.le_refl s.heap.objs.size)
 have I1 := I.laid (a := s.heap.objs.size) (o := .dK []) (h' := s.heap.push { cls := .type "dict", data := .dict #[] }) (t' := s.toks) (fun _ _ q => Heap.get?_push_of_some _ q) (Nat.le_refl _) (dk_empty s.heap I.big)
 refine wpAny_Dict_walk (knd := mixKind X.prog X.w) hall hl h0 h15 (thn (h pins _ σ _ _ I1 (q _ hn)) fun ws s2 ⟨ps, H2, I2, rel, e, kvs, ep, lk, q2⟩ => ?_)
 subst ep
 obtain ⟨rs, c, rk⟩ := carries_of (P := X.prog) (w := X.w) rel
 obtain ⟨z, hd, vs0, r0, dd⟩ := dk_of I2.hok e
 cases r0
 refine ⟨rs, c, dd, fun h' dd' hs => ⟨.ref s.heap.objs.size, _, ?_, rfl, q2⟩⟩
 have hz : (mergeK [] kvs).length <= sizeLine := by
   have h1 := qcv kvs []
   rw [List.length_nil] at h1
   rw [sizeLine_eq]; omega
 have he : ∃ q, h'.get? s.heap.objs.size = some q := let ⟨q, _, _, hq, _⟩ := dd'; ⟨q, hq⟩
 exact d_write I2 (by rw [e]; exact True.intro) hs he (dk_new hz hd (rk.merge .nil) dd'))
structure M1 (X : Cx) (o : Expr) (m : Str) (apos : Pos) (e : Expr) (cpos : Pos) : Prop where
 base : attributeBase o m X.env (eval o X.env) = eval o X.env
 few : ((backTo cpos (starEach [e] X.env)).all (fun x => !x.1) && (backToKw cpos (keywordEach [] X.env)).all (fun x => x.1.isSome)
   && decide (([e] : List Expr).length + ([] : List Keyword).length + (if ([] : List Keyword).isEmpty then 0 else 1) < 30)) = true
 line : (apos.endLine == cpos.line) = true
 trees : backTo cpos (starEach [e] X.env) = [(false, eval e X.env)]
structure M2 (X : Cx) (o : Expr) (m : Str) (apos : Pos) (e f : Expr) (cpos : Pos) : Prop where
 base : attributeBase o m X.env (eval o X.env) = eval o X.env
 few : ((backTo cpos (starEach [e, f] X.env)).all (fun x => !x.1) && (backToKw cpos (keywordEach [] X.env)).all (fun x => x.1.isSome)
   && decide (([e, f] : List Expr).length + ([] : List Keyword).length + (if ([] : List Keyword).isEmpty then 0 else 1) < 30)) = true
 line : (apos.endLine == cpos.line) = true
 trees : backTo cpos (starEach [e, f] X.env) = [(false, eval e X.env), (false, eval f X.env)]
def IsD (H : Hp) (a : Addr) : Prop := (∃ kvs, Rd H a (.dK kvs)) ∨ ∃ kvs, Rd H a (.dT kvs)
theorem isD_at {X : Cx} {pins : List (Addr × Obj)} {σ : St} {H : Hp} {s : Shared} {a : Addr} (I : Inv X pins σ H s) (d : IsD H a) :
   s.TypeIs (.ref a) "dict" /\ (∀ b, Value.ref a = .ref b -> ∃ ob, s.heap.get? b = some ob /\ ob.dict = none) /\ (a == sysModules) = false := by
 rcases d with ⟨kvs, e⟩ | ⟨kvs, e⟩
 . obtain ⟨_, hd, vs, _, dd⟩ := dk_rd I.hok e
   refine ⟨dd.typeIs, fun b q => ?_, hd⟩
   cases q
   obtain ⟨ob, _, _, h1, h2, _⟩ := dd
   exact ⟨ob, h1, h2.2.1⟩
 . obtain ⟨_, hd, xs, _, dd⟩ := dt_rd I.hok e
   refine ⟨dd.typeIs, fun b q => ?_, hd⟩
   cases q
   obtain ⟨ob, _, _, h1, h2, _⟩ := dd
   exact ⟨ob, h1, h2.2.1⟩
section
variable {X : Cx} {pins : List (Addr × Obj)} {σ : St} {H : Hp} {s : Shared} {a : Addr} {y d : V} {u r : Value} {o : Option V} {A : Around} {E : Value -> Shared -> Prop}
theorem d_get1 {Q : Value -> Shared -> Prop} (hu : A.units + 1 < cLine) (I : Inv X pins σ H s) (g : DGet H a y o) (ry : RelV y u) (h : ∀ w' s', Inv X pins σ H s' -> RelV (o.getD .non) w' -> Q w' s') :
   wpAny (model X.prog X.w) A (call (.builtin "dict.get") [.ref a, u]) Q E s := by
 rcases g with ⟨kvs, k, e, ey, l⟩ | ⟨kvs, k, b, e, ey, eb, l⟩
 . subst ey
   obtain ⟨z, hd, vs, rel, dd⟩ := dk_rd I.hok e
   refine call_meetsIn PySem.F.slot_dict_get dd.typeIs PySem.F.entry_dict_get (PySem.F.args_dict_get_2 _ _) (meets_dict_get (mixKind X.prog X.w) a (kV_is ry) hd) ⟨_, dd.mapOf, h _ _ (I.tok _) ?_⟩
   rw [l]
   exact (rel.val k).getD rfl
 . subst ey
   cases (show u = Value.ref b from ry)
   obtain ⟨z, hd, xs, rel, dd⟩ := dt_rd I.hok e
   refine call_meetsIn PySem.F.slot_dict_get dd.typeIs PySem.F.entry_dict_get (PySem.F.args_dict_get_2 _ _) (meetsH_dict_get (tupleKind (mixKind X.prog X.w)) a b hd) ⟨tupleKind_room_in1 hu, k, xs, key_of I.hok eb, dd, h _ _ (I.tok _) ?_⟩
   rw [l]
   exact (rel.val k).getD rfl
end
def tDGet1 (td ty : TE) : TE := fun σ H Q => td σ H fun x H1 => ∃ a, x = .ref a /\ IsD H1 a /\ ty σ H1 fun y H2 => ∃ o, DGet H2 a y o /\ Q (o.getD .non) H2
section
variable {X : Cx} {o e f : Expr} {apos cpos : Pos} {td ty tx : TE}
theorem je_dget1 (hu : X.A.units + 1 < cLine) (ho : JE X o td) (he : JE X e ty) (m : M1 X o "get" apos e cpos) : JE X (.Call (.Attribute o "get" apos) [e] [] cpos) (tDGet1 td ty) := .of (by
 have ho := ho.to
 have he := he.to
 intro pins s σ H Q I h
 refine wpAny_Call_method m.base m.few m.line PySem.F.plainAttrs_dict PySem.F.slot_dict_get PySem.F.type_dict_get (thn (ho pins s σ H _ I h) fun u s1 ⟨x, H1, I1, rx, a, ex, d, q1⟩ => ?_)
 subst ex
 obtain rfl : u = Value.ref a := rx
 obtain ⟨t1, t2, _⟩ := isD_at I1 d
 refine ⟨t1, t2, ?_⟩
 rw [m.trees]
 refine Calls.callWith_builtin rfl (Calls.evalArgs_plain (Calls.spliced_cons (thn (he pins s1 σ H1 _ I1 q1) fun iv s2 ⟨y, H2, I2, ry, ov, g, q2⟩ => Calls.spliced_nil ?_)))
 exact d_get1 hu I2 g ry fun w' s3 I3 rw' => ⟨_, H2, I3, rw', q2⟩)
end
section
variable {X : Cx} {pins : List (Addr × Obj)} {σ : St} {H : Hp} {s : Shared} {a : Addr} {kvs : List (Key × V)} {A : Around} {E : Value -> Shared -> Prop}
end
section
variable {X : Cx} {pins : List (Addr × Obj)} {σ : St} {H : Hp} {s : Shared} {a : Addr} {y : V} {u : Value} {A : Around} {E : Value -> Shared -> Prop}
end
end L2
namespace Att
open PySem PySem.W PySem.Calls PyProof.Rows
theorem ints_of_wellAll {P : Params} {h : Heap} : ∀ (ns : List Int) (vs : List Value), WellAll P h vs (ns.map WData.int) -> IntsAre vs ns := by
 intro ns
 induction ns with
 | nil =>
   intro vs w
   rw [List.map_nil] at w
   cases w
   exact .nil
 | cons n ns ih =>
   intro vs w
   rw [List.map_cons] at w
   cases w with
   | cons a b =>
     cases a
     exact .cons _ _ (ih _ b)
theorem script_of {l : OpenLaw} {n : Nat} (hn : l.most = some n) {P : Params} {h : Heap} {args : List WData} {vals : List Value}
   (hpre : l.row.toRowW.claim.pre args = true) (hwl : WellAll P h vals args) :
   ∃ a vs ns, vals = [Value.ref a] /\ args = [WData.list (ns.map WData.int)] /\ h.get? a = some { cls := .type "list", data := .seq vs.toArray } /\ IntsAre vs ns /\ ns.length <= n := by
 have hsh : WShape.hasAll [] args [.list .int] = true := (pre_splitW hpre).1
 have hc : l.pre.holds [] { args := args } = true := (pre_splitW hpre).2
 obtain ⟨d, r, rfl, h1, h2⟩ := hasAllW_cons hsh
 obtain rfl := hasAllW_nil h2
 obtain ⟨xs, rfl, h3⟩ := hasW_list h1
 obtain ⟨ns, rfl⟩ := items_int h3
 have hlen : ns.length <= n := by
   unfold OpenLaw.pre at hc
   have h4 : (WTm.not (.lt (.lit (.int (n : Int))) (.len (.arg 0)))).holds [] { args := [.list (ns.map .int)] } = true := by
     have h4 := (holds_andW hc).1
     rw [hn] at h4
     exact h4
   have h5 := condW_of h4 (w_not (w_lt w_lit (w_len_list (w_arg rfl))))
   rw [List.length_map] at h5
   refine Nat.le_of_not_lt fun q => ?_
   have q' : (n : Int) < ((ns.length : Nat) : Int) := by omega
   first
     | (rw [decide_eq_true q'] at h5; exact absurd h5 (by decide))
     | (simp at h5; omega)
 cases hwl with
 | cons w1 w2 =>
   cases w2
   cases w1 with
   | list ho hall => exact ⟨_, _, ns, rfl, rfl, ho, ints_of_wellAll ns _ hall, hlen⟩
theorem post_true (l : OpenLaw) (args : List WData) : l.row.toRowW.claim.post args (.bool true) args = true :=
 postW_of (r := l.row.toRowW) (X := (true == true))
   (show WShape.has [] (.bool true) .bool = true by first | rfl | decide | simp [WShape.has, WShape.arms, WShape.armsAll])
   (show (WTm.eq .res (.lit (.bool true))).value [] { args := args, res := some (.bool true), after := args } = some (.bool (true == true)) from w_eq_bool (w_res rfl) w_lit) rfl
theorem attach_call {l : OpenLaw} {n : Nat} {q : Program} {loose : List Str} {XP : (Str -> Option Value) -> Heap -> Prop} {YP : World -> Heap -> Prop} {d : DefRec}
   (hn : l.most = some n) (hdf : d.params.defaults = [])
   (call : ∀ (w : World) (s₀ s₁ : Shared) (mg mb : Str -> Option Value) (fa : Addr) (o : Obj) (pm cd doc : Value) (a : Addr) (vs : List Value) (ns : List Int),
     Ground q loose [] XP w s₀ mg mb s₁.heap -> YP w s₁.heap →
     s₁.heap.get? fa = some o -> o.data = .func (docDef d.name d.params d.body d.scope pm cd doc) -> s₁.heap.CodeRec cd d.name -> mg d.name = some (.ref fa) →
     s₁.heap.get? a = some { cls := .type "list", data := .seq vs.toArray } -> IntsAre vs ns -> ns.length <= n -> s₁.gens = #[] →
     codeAny (model l.prog w) callerA (.call (.ref fa) ⟨[.ref a], []⟩) (fun r s' => r = .ok (.ret (.bool true)) /\ OldK s₁.heap s'.heap /\ s'.os = s₁.os /\ AllBare s'.gens) s₁) :
   WalkO q loose XP YP l.row.toRowW d [] (fun f vs => PySem.call f vs) := by
 intro w s₀ s₁ mg mb G Y fa o pm cd doc dV kV ho hd hcd hD hmg hg args vals as hpre hlay hrd hwl hlo
 obtain rfl : dV = .none := Dflts.none hD hdf
 obtain rfl : kV = .none := Dflts.noKw hD
 obtain ⟨a, vs, ns, rfl, rfl, hobj, hints, hlen⟩ := script_of hn hpre hwl
 refine enter_call (codeAny_mono (call w s₀ s₁ mg mb fa o pm cd doc a vs ns G Y ho (fd_plain hd) hcd hmg hobj hints hlen hg) fun r s' hq => ?_)
 obtain ⟨rfl, h2, h3, h4⟩ := hq
 exact ⟨.inl ⟨.bool true, .bool true, [], rfl, fun _ => rfl, .bool true, post_true l _, fun _ => ⟨List.Pairwise.nil, fun _ hm => (nomatch hm)⟩⟩, h2, h3, h4⟩
section
variable {prog : Program} {w : World} {A : Around} {E : Value -> Shared -> Prop} {s : Shared} {K : Frag}
end
end Att
namespace L2
open PySem PySem.Spec PyProof.Rows
theorem vals_ints : ∀ {vs : List Value} {ns : List Int}, IntsAre vs ns -> Vals (ns.map V.int) vs
 | _, _, .nil => .nil
 | _, _, .cons n t h => .cons ⟨t, rfl⟩ (vals_ints h)
def Only (H : Hp) : Prop := ∀ b, H b = none ∨ ∃ o xs, H b = some (.frz o (.lst xs))
theorem law_call {P : Program} {w : World} {K : PySem.W.Frag} {mg mb : Str -> Option Value} {CX : CXT} {k : Nat} {fa a : Addr} {fd : FuncData} {x : Str} {sp : Sp} {s₁ : Shared} {vs : List Value} {ns : List Int}
   (KX : K.In s₁.heap) (hns : s₁.heap.Ns mainGlobals mg) (hb : s₁.heap.Ns builtinsNs mb) (hbb : ∀ x : Str, x ≠ "__name__" -> mb x = bootBuiltins x) (hlim : s₁.heap.NoLimit) (hg : s₁.gens = #[])
   (ha : s₁.heap.get? a = some { cls := .type "list", data := .seq vs.toArray }) (hi : IntsAre vs ns) (hl : ns.length <= sizeLine) (hr : Room k callerA)
   (F : ∀ base : Heap, K.In base -> base.Ns mainGlobals mg -> FnOk P w K mg base CX k fa fd [x] sp) (hbind : ∀ (s : Shared) (u : Value), BindsTo s fd ⟨[u], []⟩ [(x, u)])
   (hsp : ∀ H : Hp, Only H -> SqL K H a (ns.map V.int) -> sp [.ref a] H (fun v _ => v = .bl true) fun _ _ _ => False)
   (hCX : ∀ H e s', CX [] H s₁ (fun _ _ _ => False) e s' -> False) :
   codeAny (model P w) callerA (.call (.ref fa) ⟨[.ref a], []⟩) (fun r s' => r = .ok (.ret (.bool true)) /\ OldK s₁.heap s'.heap /\ s'.os = s₁.os /\ AllBare s'.gens) s₁ := by
 have rv := vals_ints hi
 have lenV := hi.length
 have core : ∀ H : Hp, Only H -> SqL K H a (ns.map V.int) -> HOk P w H s₁.heap -> (∀ b, H b ≠ none -> b = a) -> (H a ≠ none -> K.lookup a = none) →
     codeAny (model P w) callerA (.call (.ref fa) ⟨[.ref a], []⟩) (fun r s' => r = .ok (.ret (.bool true)) /\ OldK s₁.heap s'.heap /\ s'.os = s₁.os /\ AllBare s'.gens) s₁ := by
   intro H hO hS hok hA hK
   have base_of : ∀ {b : Addr} {o : Obj}, s₁.heap.get? b = some o -> H b = none -> (hidT s₁.heap H).get? b = some o := fun e n => hidT_get e n
   have noA : ∀ {b : Addr} {o : Obj} {es : Array DictEntry} {ep : Nat}, s₁.heap.get? b = some o -> o.data = .dict es ep -> H b = none := fun {b o es ep} e d => by
     cases q : H b with
     | none => rfl
     | some u =>
       have e' : b = a := hA b (by rw [q]; simp)
       subst e'
       rw [ha] at e; cases e
       have d' : Data.seq vs.toArray _ = Data.dict es ep := d
       cases d'
   have nsK : ∀ {b : Addr} {m : Str -> Option Value}, s₁.heap.Ns b m -> (hidT s₁.heap H).Ns b m := fun {b m} ⟨o, es, ep, e, d, r⟩ => ⟨o, es, ep, base_of e (noA e d), d, r⟩
   have hKb : K.In (hidT s₁.heap H) := fun b o e => base_of (KX b o e) (by
     cases q : H b with
     | none => rfl
     | some u =>
       have e' : b = a := hA b (by rw [q]; simp)
       subst e'
       rw [hK (by rw [q]; simp)] at e; cases e)
   have hM : Mod K mg (hidT s₁.heap H) := ⟨hKb, nsK hns, ⟨mb, nsK hb, hbb⟩, let ⟨mc, h1, h2⟩ := hlim; ⟨mc, nsK h1, h2⟩⟩
   have e0 : Env0 P w K mg (hidT s₁.heap H) callerA [] s₁ H := ⟨rfl, hM, fun b o e => of_hidT e, Nat.le_of_eq (hidT_size _ _), trivial, fun b hb => absurd (show b ∈ ([] : List Addr) from hb) (by simp), hok, .of_eq hg⟩
   refine codeAny_mono ((F _ hKb (nsK hns)).run callerA [] s₁ H ⟨[.ref a], []⟩ [.ref a] [.ref a] _ _ hr e0 (hbind s₁ (.ref a)) (.cons rfl .nil) (hsp H hO hS)) fun r s' h => ?_
   cases r with
   | error e => exact (hCX H e s' h).elim
   | ok fl =>
     cases fl with
     | next => exact False.elim h
     | brk => exact False.elim h
     | cont => exact False.elim h
     | ret u =>
       obtain ⟨v, H', os, bare, un, hok', r', q⟩ := h
       have q' : v = .bl true := q
       subst q'
       obtain rfl : u = Value.bool true := r'
       refine ⟨rfl, OldK.of_keep fun b o e => ?_, os, bare⟩
       cases q : H b with
       | none => exact un.keep b o e q (by intro z; exact absurd (show b ∈ ([] : List Addr) from z) (by simp)) (by simp)
       | some u =>
         rcases hO b with z | ⟨ob, xs, z⟩
         . rw [q] at z; cases z
         . have z2 := un.frzs b ob _ z
           obtain ⟨e1, _⟩ := hok b _ z
           obtain ⟨e2, _⟩ := hok' b _ z2
           rw [e] at e1; cases e1
           exact e2
 cases hk : K.lookup a with
 | some o =>
   have e := KX a o hk
   rw [ha] at e
   cases e
   refine core (fun _ => none) (fun _ => .inl rfl) (.inr ⟨_, vs.toArray, _, hk, rfl, rfl, rfl, by rw [List.size_toArray, lenV]; exact hl, by simpa using rv⟩) (fun b u z => by have z' : (none : Option HO) = some u := z; cases z') (fun b z => absurd rfl z) fun z => absurd rfl z
 | none =>
   refine core (fun b => if b = a then some (.frz { cls := .type "list", data := .seq vs.toArray } (.lst (ns.map V.int))) else none) (fun b => ?_) (.inl (.inr ⟨{ cls := .type "list", data := .seq vs.toArray }, if_pos rfl⟩)) (fun b u z => ?_) (fun b z => ?_) fun _ => hk
   . by_cases hb : b = a
     . exact .inr ⟨_, _, if_pos hb⟩
     . exact .inl (if_neg hb)
   . by_cases hb : b = a
     . have z' := (if_pos hb).symm.trans z
       cases z'
       subst hb
       exact ⟨ha, by rw [List.length_map]; exact hl, vs, _, rv, ha⟩
     . have z' := (if_neg hb).symm.trans z
       cases z'
   . by_cases hb : b = a
     . exact hb
     . exact absurd (if_neg hb) z
end L2
namespace L2
open PySem PySem.Spec PyProof.Rows
theorem walk_of {l : PySem.W.OpenLaw} {n k : Nat} {q : Program} {loose : List Str} {XP : (Str -> Option Value) -> Heap -> Prop} {YP : World -> Heap -> Prop} {d : DefRec} {K : Params -> PySem.W.Frag} {CX : World -> CXT} {sp : World -> Sp} {x : Str}
   (hn : l.most = some n) (hn2 : n <= sizeLine) (hdf : d.params.defaults = []) (hr : Room k callerA)
   (hY : ∀ (w : World) (h : Heap), YP w h -> (K w.params).In h)
   (F : ∀ (w : World) (mg : Str -> Option Value) (fa : Addr) (h : Heap), (K w.params).In h -> h.Ns mainGlobals mg -> mg d.name = some (.ref fa) →
     ∃ fd : FuncData, (∀ (s : Shared) (u : Value), BindsTo s fd ⟨[u], []⟩ [(x, u)]) ∧
       ∀ base : Heap, (K w.params).In base -> base.Ns mainGlobals mg -> FnOk l.prog w (K w.params) mg base (CX w) k fa fd [x] (sp w))
   (hsp : ∀ (w : World) (H : Hp) (a : Addr) (ns : List Int), ns.length <= n -> Only H -> SqL (K w.params) H a (ns.map V.int) -> sp w [.ref a] H (fun v _ => v = .bl true) fun _ _ _ => False)
   (hCX : ∀ (w : World) (H : Hp) (s : Shared) (e : Value) (s' : Shared), CX w [] H s (fun _ _ _ => False) e s' -> False) :
   PySem.W.WalkO q loose XP YP l.row.toRowW d [] (fun f vs => PySem.call f vs) := by
 refine Att.attach_call hn hdf fun w s₀ s₁ mg mb fa o pm cd doc a vs ns G Y ho hd hcd hmg hobj hints hlen hg => ?_
 have KX := hY w _ Y
 obtain ⟨fd, hb, hF⟩ := F w mg fa _ KX G.T.g hmg
 exact law_call KX G.T.g G.T.b G.T.builtins G.T.nolimit hg hobj hints (Nat.le_trans hlen hn2) hr hF hb (fun H hO hS => hsp w H a ns hlen hO hS) fun H e s' => hCX w H s₁ e s'
end L2
namespace L2
open PySem PySem.Spec PyProof.Rows
def inClass (s : Stmt) (j : Nat) : Stmt := match s with
 | .ClassDef _ _ _ body _ _ _ _ _ _ _ => body.getD j (.Pass ⟨0, 0, 0, 0⟩)
 | _ => .Pass ⟨0, 0, 0, 0⟩
def defArgs (s : Stmt) : Arguments := match s with
 | .FunctionDef _ a _ _ _ _ _ _ _ _ => a
 | _ => { posonlyargs := [], args := [], vararg := none, kwonlyargs := [], kw_defaults := [], kwarg := none, defaults := [] }
def defBody (s : Stmt) : List Stmt := match s with
 | .FunctionDef _ _ b _ _ _ _ _ _ _ => b
 | _ => []
def defScope (s : Stmt) : Scope := match s with
 | .FunctionDef _ _ _ _ _ _ sc _ _ _ => sc
 | _ => { kind := .function, names := [], isGenerator := false, isCoroutine := false }
abbrev CX0 : CXT := fun _ _ _ _ _ _ => False
abbrev E0 : XK := fun _ _ _ => False
theorem pass0 {X : Cx} : Passes CX0 X E0 := fun _ _ _ _ _ _ _ h => h.elim
structure Fun (K : PySem.W.Frag) (x qual : Str) (st : Stmt) (f : Addr) (fd : FuncData) : Prop where
 ex : ∃ (oc : Value) (od : Option Addr) (kV doc pm : Value) (an : Option Addr) (cdv ct : Value) (osl : Array (Option Value)),
   fd = PySem.W.fnOf x qual (defArgs st) (defBody st) (defScope st) .none kV doc pm an cdv ct /\ K.lookup f = some ⟨oc, od, .func fd, osl⟩ /\ PySem.W.codeIn K cdv qual = true
 kp : PySem.W.keepIn K (.ref f) = true
section
variable {P : Program} {w : World} {K : PySem.W.Frag} {mg : Str -> Option Value} {base : Heap}
theorem Fun.ok {x qual : Str} {st : Stmt} {f : Addr} {fd : FuncData} {N ps : List Str} {k : Nat} {sp : Sp} (F : Fun K x qual st f fd) (S : FnScope N ps (defScope st)) (len : ∀ vs H Q E, sp vs H Q E -> vs.length = ps.length)
   (hbody : ∀ (cdv : Value) (A : Around) (outer : List Env) (s : Shared) (H : Hp) (vs : List V) (Q : VK) (E : XK), Room k (A.deeper (envOfC qual (defScope st) s.heap.objs.size f cdv)) -> sp vs H Q E →
     ∃ t, PSs (cxOf CX0 P w K mg base N qual (defScope st) f cdv A outer s H E).nox (defBody st) t /\ t { nx := fun _ H' => Q .non H', rt := Q } (start N vs) H) : FnOk P w K mg base CX0 (k + 1) f fd ps sp := by
 obtain ⟨oc, od, kV, doc, pm, an, cdv, ct, osl, rfl, lk, hcd⟩ := F.ex
 refine fn_of lk hcd S len fun A outer s H vs Q E hr hsp => ?_
 obtain ⟨t, h, q⟩ := hbody cdv A outer s H vs Q E hr hsp
 exact ⟨t, h.nox, q⟩
theorem Fun.okJ {x qual : Str} {st : Stmt} {f : Addr} {fd : FuncData} {N ps : List Str} {k : Nat} {sp : Sp} (F : Fun K x qual st f fd) (S : FnScope N ps (defScope st)) (len : ∀ vs H Q E, sp vs H Q E -> vs.length = ps.length)
   (hbody : ∀ (cdv : Value) (A : Around) (outer : List Env) (s : Shared) (H : Hp) (vs : List V) (Q : VK) (E : XK), Room k (A.deeper (envOfC qual (defScope st) s.heap.objs.size f cdv)) -> sp vs H Q E →
     ∃ t, JSs (cxOf CX0 P w K mg base N qual (defScope st) f cdv A outer s H E).nox (defBody st) t /\ t { nx := fun _ H' => Q .non H', rt := Q } (start N vs) H) : FnOk P w K mg base CX0 (k + 1) f fd ps sp :=
 F.ok S len fun cdv A outer s H vs Q E hr h => let ⟨t, a, b⟩ := hbody cdv A outer s H vs Q E hr h; ⟨t, a.to, b⟩
theorem Fun.binds {x qual : Str} {st : Stmt} {f : Addr} {fd : FuncData} {ps : List Str} (F : Fun K x qual st f fd)
   (h : ∀ (kV doc pm : Value) (an : Option Addr) (cdv ct : Value) (us : List Value), us.length = ps.length -> bindArgs (PySem.W.fnOf x qual (defArgs st) (defBody st) (defScope st) .none kV doc pm an cdv ct) ⟨us, []⟩ = pure (ps.zip us)) : Binds K fd ps [] := by
 obtain ⟨oc, od, kV, doc, pm, an, cdv, ct, osl, rfl, lk, hcd⟩ := F.ex
 exact .all (h kV doc pm an cdv ct)
theorem fun_mk {x qual : Str} {st : Stmt} {f : Addr} {oc : Value} {od an : Option Addr} {osl : Array (Option Value)} {kV doc pm cdv ct : Value} (l : K.lookup f = some ⟨oc, od, .func (PySem.W.fnOf x qual (defArgs st) (defBody st) (defScope st) .none kV doc pm an cdv ct), osl⟩)
   (c : PySem.W.codeIn K cdv qual = true) (k : PySem.W.keepIn K (.ref f) = true) : Fun K x qual st f (PySem.W.fnOf x qual (defArgs st) (defBody st) (defScope st) .none kV doc pm an cdv ct) := ⟨⟨oc, od, kV, doc, pm, an, cdv, ct, osl, rfl, l, c⟩, k⟩
end
theorem hu_of {A : Around} {k : Nat} (hr : Room k A) : A.units + 1 < cLine := Nat.lt_of_le_of_lt (Nat.add_le_add_left (by decide : 1 <= 64) _) hr.units
theorem small1000 {n : Nat} (h : n <= 1000) : n < sizeLine := Nat.lt_of_le_of_lt h (by decide)
section
variable {X : Cx}
theorem pv (i : Nat) {x : Str} {pos : Pos} (hN : X.N[i]? = some x := by rfl) (hv : Vis X.env.scope x := by first | exact Or.inl rfl | exact Or.inr (Or.inl rfl) | exact Or.inr (Or.inr rfl)) (hd : (x == ("__debug__" : Str)) = false := by decide)
   (hcd : (x == ("__classdict__" : Str)) = false := by decide) : PE X (.Name x pos) (tVar i) := pe_var hN hv hd hcd
theorem jv (i : Nat) {x : Str} {pos : Pos} (hN : X.N[i]? = some x := by rfl) (hv : Vis X.env.scope x := by first | exact Or.inl rfl | exact Or.inr (Or.inl rfl) | exact Or.inr (Or.inr rfl)) (hd : (x == ("__debug__" : Str)) = false := by decide) (hcd : (x == ("__classdict__" : Str)) = false := by decide) : JE X (.Name x pos) (tVar i) := .of (pv i hN hv hd hcd)
end
theorem iteF {A B : Prop} (h : B) : if false = true then A else B := by
 rw [if_neg Bool.false_ne_true]
 exact h
theorem iteT {A B : Prop} (h : A) : if true = true then A else B := by
 rw [if_pos rfl]
 exact h
theorem ite2 {c A B : Prop} [Decidable c] (h1 : c -> A) (h2 : ¬ c -> B) : if c then A else B := by
 by_cases h : c
 . rw [if_pos h]
   exact h1 h
 . rw [if_neg h]
   exact h2 h
def Same (H H' : Hp) : Prop := ∀ b o, H b = some o -> H' b = some o
theorem Same.refl (H : Hp) : Same H H := fun _ _ h => h
theorem Same.trans {H H1 H2 : Hp} (a : Same H H1) (b : Same H1 H2) : Same H H2 := fun c o h => b c o (a c o h)
theorem Same.seq {K : PySem.W.Frag} {H H' : Hp} {a : Addr} {xs : List V} (e : Same H H') (h : SqL K H a xs) : SqL K H' a xs := by
 rcases h with (h | ⟨o, h⟩) | h
 . exact .inl (.inl (e _ _ h))
 . exact .inl (.inr ⟨o, e _ _ h⟩)
 . exact .inr h
section
variable {X : Cx}
end
section
variable {κ : Type} [DecidableEq κ]
theorem valV_in {kvs : List (κ × V)} {k : κ} {v : V} (h : valV kvs k = some v) : k ∈ kvs.map (·.1) := by
 have q : (kvs.any fun kv => decide (kv.1 = k)) = true := by
   rw [qcl, h]
   all_goals rfl
 obtain ⟨p, hp, e⟩ := List.any_eq_true.mp q
 exact List.mem_map.mpr ⟨p, hp, of_decide_eq_true e⟩
end
end L2
set_option Elab.async false
set_option linter.all false
set_option maxRecDepth 100000
set_option maxHeartbeats 4000000
namespace L2
open PySem PySem.Spec PyProof.Rows
theorem freeB : (NameKind.free == NameKind.free) = true := rfl
def closeL (env : Env) : List (Str × NameKind) -> List (Str × Addr) -> List (Str × Addr)
 | [], cs => cs
 | (n, k) :: r, cs => closeL env r (if k == .free then (n, (env.cells.lookup n).getD 0) :: cs else cs)
theorem closureFor_eq {scope : Scope} {env : Env} (h : ∀ x ∈ scope.names, x.2 = .free -> ∃ c, env.cells.lookup x.1 = some c) : closureFor scope env = pure (closeL env scope.names []) := by
 simp only [closureFor]
 have key : ∀ (l : List (Str × NameKind)) (cs : List (Str × Addr)), (∀ x ∈ l, x.2 = .free -> ∃ c, env.cells.lookup x.1 = some c) →
     (forIn l cs fun x (r : List (Str × Addr)) => if (x.snd == NameKind.free) = true then (do let a ← cellOf env x.fst; pure (ForInStep.yield ((x.fst, a) :: r)) : Sem (ForInStep (List (Str × Addr)))) else pure (ForInStep.yield r)) = (pure (closeL env l cs) : Sem (List (Str × Addr))) := by
   intro l
   induction l with
   | nil => intro cs _; rfl
   | cons x l ih =>
     intro cs hl
     obtain ⟨n, k⟩ := x
     have ihl := fun cs' => ih cs' fun y hy => hl y (List.mem_cons_of_mem _ hy)
     rw [List.forIn_cons]
     by_cases hk : k = .free
     . subst hk
       obtain ⟨c, hc⟩ := hl (n, .free) List.mem_cons_self rfl
       have e1 : cellOf env n = pure c := by
         unfold cellOf
         have hc' : env.cells.lookup n = some c := hc
         rw [hc']
       have e2 : closeL env ((n, NameKind.free) :: l) cs = closeL env l ((n, c) :: cs) := by
         have hc' : env.cells.lookup n = some c := hc
         show closeL env l (if (NameKind.free == NameKind.free) = true then (n, (env.cells.lookup n).getD 0) :: cs else cs) = _
         rw [if_pos freeB, hc']
         rfl
       rw [e2, ← ihl]
       dsimp only
       rw [if_pos freeB, e1]
       rfl
     . have hb : (k == NameKind.free) = false := by simpa using hk
       have e2 : closeL env ((n, k) :: l) cs = closeL env l cs := by
         show closeL env l (if (k == NameKind.free) = true then (n, (env.cells.lookup n).getD 0) :: cs else cs) = _
         rw [if_neg (by rw [hb]; decide)]
       rw [e2, ← ihl]
       dsimp only
       rw [if_neg (by rw [hb]; decide)]
       rfl
 rw [key scope.names [] h]
 rfl
theorem closeL_some {env : Env} {x : Str} {c : Addr} : ∀ {l : List (Str × NameKind)} {cs : List (Str × Addr)}, (closeL env l cs).lookup x = some c -> cs.lookup x = some c ∨ ((x, NameKind.free) ∈ l /\ c = (env.cells.lookup x).getD 0)
 | [], cs, h => .inl h
 | (n, k) :: r, cs, h => by
   rcases closeL_some (l := r) h with h | ⟨h1, h2⟩
   . by_cases hk : k = .free
     . subst hk
       rw [if_pos freeB, List.lookup_cons] at h
       by_cases hx : x = n
       . subst hx
         simp only [beq_self_eq_true] at h
         exact .inr ⟨List.mem_cons_self, (Option.some.inj h).symm⟩
       . have hb : (x == n) = false := beq_eq_false_iff_ne.mpr hx
         simp only [hb] at h
         exact .inl h
     . have hb : (k == NameKind.free) = false := by simpa using hk
       rw [if_neg (by rw [hb]; decide)] at h
       exact .inl h
   . exact .inr ⟨List.mem_cons_of_mem _ h1, h2⟩
theorem closeL_has {env : Env} {x : Str} : ∀ {l : List (Str × NameKind)} {cs : List (Str × Addr)}, ((x, NameKind.free) ∈ l ∨ ∃ c, cs.lookup x = some c) -> ∃ c, (closeL env l cs).lookup x = some c
 | [], cs, h => by
   rcases h with h | h
   . cases h
   . exact h
 | (n, k) :: r, cs, h => by
   show ∃ c, (closeL env r (if (k == NameKind.free) = true then (n, (env.cells.lookup n).getD 0) :: cs else cs)).lookup x = some c
   refine closeL_has (l := r) ?_
   rcases h with h | ⟨c, h⟩
   . rcases List.mem_cons.mp h with h | h
     . cases h
       refine .inr ⟨(env.cells.lookup x).getD 0, ?_⟩
       rw [if_pos freeB, List.lookup_cons]
       simp only [beq_self_eq_true]
     . exact .inl h
   . refine .inr ?_
     by_cases hk : (k == NameKind.free) = true
     . rw [if_pos hk, List.lookup_cons]
       cases hx : x == n with
       | true => exact ⟨_, rfl⟩
       | false => exact ⟨c, h⟩
     . rw [if_neg hk]
       exact ⟨c, h⟩
theorem relabel_look {scope : Scope} {env : Env} {x : Str} {k : NameKind} : ∀ {names : List (Str × NameKind)}, names.lookup x = some k →
   ∃ k', (names.map fun (n, k) => if (k == NameKind.free && env.scope.kind == .function && env.kindOf n == some .cell) then (n, NameKind.cell) else (n, k)).lookup x = some k' /\ (k' = k ∨ (k = .free /\ k' = .cell))
 | [], h => by simp at h
 | (n, j) :: r, h => by
   rw [List.map_cons]
   by_cases hx : x = n
   . subst hx
     rw [List.lookup_cons] at h
     simp only [beq_self_eq_true] at h
     cases h
     dsimp only
     by_cases hc : (k == NameKind.free && env.scope.kind == .function && env.kindOf x == some .cell) = true
     . rw [if_pos hc, List.lookup_cons]
       simp only [beq_self_eq_true]
       refine ⟨_, rfl, .inr ⟨?_, rfl⟩⟩
       simp only [Bool.and_eq_true, beq_iff_eq] at hc
       exact hc.1.1
     . rw [if_neg hc, List.lookup_cons]
       simp only [beq_self_eq_true]
       exact ⟨_, rfl, .inl rfl⟩
   . have hb : (x == n) = false := beq_eq_false_iff_ne.mpr hx
     rw [List.lookup_cons] at h
     simp only [hb] at h
     obtain ⟨k', h1, h2⟩ := relabel_look (env := env) (scope := scope) h
     refine ⟨k', ?_, h2⟩
     dsimp only
     by_cases hc : (j == NameKind.free && env.scope.kind == .function && env.kindOf n == some .cell) = true
     . rw [if_pos hc, List.lookup_cons]
       simp only [hb]
       exact h1
     . rw [if_neg hc, List.lookup_cons]
       simp only [hb]
       exact h1
theorem mem_of_lookup {x : Str} {k : NameKind} : ∀ {l : List (Str × NameKind)}, l.lookup x = some k -> (x, k) ∈ l
 | [], h => by simp at h
 | (n, j) :: r, h => by
   rw [List.lookup_cons] at h
   by_cases hx : x = n
   . subst hx
     simp only [beq_self_eq_true] at h
     cases h
     exact List.mem_cons_self
   . have hb : (x == n) = false := beq_eq_false_iff_ne.mpr hx
     simp only [hb] at h
     exact List.mem_cons_of_mem _ (mem_of_lookup h)
theorem lookup_of_map {f : Str × NameKind -> Str × NameKind} (hf : ∀ p, (f p).1 = p.1) {x : Str} {k : NameKind} : ∀ {l : List (Str × NameKind)}, (l.map f).lookup x = some k -> ∃ j, l.lookup x = some j /\ (f (x, j)).2 = k
 | [], h => by simp at h
 | (n, j) :: r, h => by
   rw [List.map_cons] at h
   have e : f (n, j) = (n, (f (n, j)).2) := by
     have := hf (n, j)
     exact Prod.ext this rfl
   rw [e, List.lookup_cons] at h
   rw [List.lookup_cons]
   by_cases hx : x = n
   . subst hx
     simp only [beq_self_eq_true] at h ⊢
     exact ⟨j, rfl, Option.some.inj h⟩
   . have hb : (x == n) = false := beq_eq_false_iff_ne.mpr hx
     simp only [hb] at h ⊢
     exact lookup_of_map hf h
def cxC (X : Cx) (N : List Str) (scope : Scope) (C : Addr) (s₂ : Shared) (H₂ : Hp) (fp : List Addr) (pins : List (Addr × Obj)) : Cx where
 prog := X.prog
 w := X.w
 K := X.K
 mg := X.mg
 base := X.base
 A := X.A
 N := N
 s₀ := s₂
 H₀ := H₂
 env := compEnvC scope (closeL X.env scope.names []) C X.env
 outer := X.stack
 stack := X.stack
 ex := fp
 fn := fun _ => false
 calm := X.calm
 pn := X.pn ++ pins
 xe := fun _ _ => False
def stC (ix : List (Option Nat)) (σ : St) : St := ix.map fun o => o.bind fun j => (σ[j]?).join
def ixOk (N' N : List Str) (sc esc : Scope) (ix : List (Option Nat)) : Bool :=
 ix.length == N'.length && (ix.zip N').all fun p => match p.1 with
   | none => true
   | some j => N[j]? == some p.2 && sc.names.lookup p.2 == some .free && (esc.names.lookup p.2 == some .cell || esc.names.lookup p.2 == some .free)
structure CScope (X : Cx) (N' : List Str) (ix : List (Option Nat)) (scope : Scope) : Prop where
 kind : scope.kind = .function
 nocell : (scope.names.all fun x => x.2 != .cell) = true
 locs : (scope.names.all fun x => x.2 != .local || scope.names.lookup x.1 == some .local) = true
 frees : (scope.names.all fun x => x.2 != .free || (X.env.scope.names.lookup x.1 == some .cell || X.env.scope.names.lookup x.1 == some .free)) = true
 ixs : ixOk N' X.N scope X.env.scope ix = true
section
variable {X : Cx} {N' : List Str} {ix : List (Option Nat)} {scope : Scope} {pins : List (Addr × Obj)} {σ : St} {H : Hp} {s : Shared}
theorem CScope.cellH (S : CScope X N' ix scope) : ∀ y ∈ scope.names, y.2 ≠ .cell := fun y hy e => by
 have := List.all_eq_true.mp S.nocell y hy
 rw [e] at this
 exact absurd this (by decide)
theorem CScope.locH (S : CScope X N' ix scope) : ∀ y ∈ scope.names, y.2 = .local -> scope.names.lookup y.1 = some .local := fun y hy e => by
 have := List.all_eq_true.mp S.locs y hy
 simp only [e, Bool.or_eq_true, bne_self_eq_false, Bool.false_eq_true, false_or, beq_iff_eq] at this
 exact this
theorem CScope.freeH (S : CScope X N' ix scope) (ok : X.Ok) : ∀ x ∈ scope.names, x.2 = .free -> ∃ c, X.env.cells.lookup x.1 = some c := fun x hx e => by
 have := List.all_eq_true.mp S.frees x hx
 simp only [e, Bool.or_eq_true, bne_self_eq_false, Bool.false_eq_true, false_or, beq_iff_eq] at this
 exact ok.has x.1 this
theorem CScope.clook (S : CScope X N' ix scope) (ok : X.Ok) {x : Str} {c : Addr} (h : (closeL X.env scope.names []).lookup x = some c) : X.env.cells.lookup x = some c /\ (x, NameKind.free) ∈ scope.names := by
 rcases closeL_some h with h | ⟨h1, h2⟩
 . simp at h
 . obtain ⟨c', hc'⟩ := S.freeH ok _ h1 rfl
   have hc2 : X.env.cells.lookup x = some c' := hc'
   rw [hc2] at h2
   subst h2
   exact ⟨hc2, h1⟩
theorem cx_ok {C : Addr} {fp : List Addr} (S : CScope X N' ix scope) (I : Inv X pins σ H s) (hC : s.heap.objs.size <= C) (hf : ∀ b ∈ fp, FpOk X pins H b) (hfo : ∀ b ∈ fp, b < s.heap.objs.size) : (cxC X N' scope C s H fp pins).Ok where
 mod := I.ok.mod
 kind := S.kind
 glob := I.ok.glob
 blt := I.ok.blt
 above := hC
 inj := fun x y c h1 h2 => I.ok.inj x y c (S.clook I.ok h1).1 (S.clook I.ok h2).1
 has := fun x hx => by
   have hx' : (relabel scope X.env).names.lookup x = some .cell ∨ (relabel scope X.env).names.lookup x = some .free := hx
   refine closeL_has (.inl ?_)
   have go : ∀ k, (k = NameKind.cell ∨ k = .free) -> (relabel scope X.env).names.lookup x = some k -> (x, NameKind.free) ∈ scope.names := fun k hk h => by
     obtain ⟨j, h1, h2⟩ := lookup_of_map (f := fun (n, k) => if (k == NameKind.free && X.env.scope.kind == .function && X.env.kindOf n == some .cell) then (n, NameKind.cell) else (n, k)) (fun p => by dsimp only; split <;> rfl) h
     have hm := mem_of_lookup h1
     by_cases hj : j = .free
     . subst hj; exact hm
     . exfalso
       have hb : (j == NameKind.free) = false := by simpa using hj
       dsimp only at h2
       rw [hb, Bool.false_and, Bool.false_and, if_neg (by decide)] at h2
       have h2' : j = k := h2
       rcases hk with e | e
       . exact S.cellH _ hm (h2'.trans e)
       . exact hj (h2'.trans e)
   rcases hx' with h | h
   . exact go _ (.inl rfl) h
   . exact go _ (.inr rfl) h
 cab := fun x c h _ => by cases h
 hd := I.ok.hd
 frames := I.ok.frames
 stk := .inl rfl
 exf := fun b hb => ⟨Nat.ne_of_lt (Nat.lt_of_lt_of_le (hfo b hb) hC), fun x c h => (hf b hb).2.2.2.2.1 x c (S.clook I.ok h).1⟩
 bs := I.bs
 bsz := Nat.le_trans I.ok.bsz I.sz
 noex := fun b o e hb => by
   rcases (hf b hb).2.2.2.1 with h | h
   . exact I.ok.noex b o e h
   . exact absurd (Nat.lt_of_lt_of_le (Heap.lt_size e) (Nat.le_trans I.ok.bsz h)) (Nat.lt_irrefl _)
 exfs := fun b hb hm => by
   rcases List.mem_cons.mp (I.stkSub b hm) with e | e
   . exact (hf b hb).2.1 e
   . exact (hf b hb).2.2.1 e
 funs := I.stack
 frf := I.stkFree
theorem inv_block {C D : Addr} {fp : List Addr} {h₁ : Heap} {m : Str -> Option Value} {t' : Nat} {n₀ : Nat} (S : CScope X N' ix scope) (I : Inv X pins σ H s) (hf : ∀ b ∈ fp, FpOk X pins H b) (hfo : ∀ b ∈ fp, b < s.heap.objs.size)
   (hD : s.heap.objs.size <= D) (hC : s.heap.objs.size <= C) (hDC : D ≠ C) (kp : ∀ b o, s.heap.get? b = some o -> h₁.get? b = some o) (hn : h₁.Ns C m) (hl : h₁.get? D = some { cls := .type "list", data := .seq #[] n₀ }) :
   Inv (cxC X N' scope C s H fp pins) [] (stC ix σ) (upd H D (.lst [])) { s with heap := h₁, toks := t' } where
 ok := cx_ok S I hC hf hfo
 os := rfl
 bare := I.bare
 base := Un.laid kp hD (I.hok.fresh hD)
 loc := by
   refine ⟨m, hn, fun i x v e1 e2 e3 => ?_⟩
   have hix := S.ixs
   unfold ixOk at hix
   rw [Bool.and_eq_true] at hix
   obtain ⟨hlen, hall⟩ := hix
   have hlen' : ix.length = N'.length := by simpa using hlen
   have e1' : N'[i]? = some x := e1
   unfold stC at e2
   rw [List.getElem?_map] at e2
   cases ho : ix[i]? with
   | none => rw [ho] at e2; cases e2
   | some o =>
     rw [ho] at e2
     cases o with
     | none => cases e2
     | some j =>
       have e2' : (σ[j]?).join = some v := Option.some.inj e2
       have hz : (ix.zip N')[i]? = some (some j, x) := by
         rw [List.getElem?_zip_eq_some]
         exact ⟨ho, e1'⟩
       have hm := List.all_eq_true.mp hall _ (List.mem_of_getElem? hz)
       dsimp only at hm
       simp only [Bool.and_eq_true, beq_iff_eq, Bool.or_eq_true] at hm
       obtain ⟨⟨hN, hfr⟩, hk⟩ := hm
       have e2'' : σ[j]? = some (some v) := by
         cases q : σ[j]? with
         | none => rw [q] at e2'; cases e2'
         | some z =>
           rw [q] at e2'
           have : z = some v := e2'
           rw [this]
       obtain ⟨mX, hnX, hlX⟩ := I.loc
       have hvis : Vis X.env.scope x := by
         rcases hk with h | h
         . exact .inr (.inl h)
         . exact .inr (.inr h)
       obtain ⟨u, ru, lu⟩ := hlX j x v hN e2'' hvis
       refine ⟨u, ru, ?_⟩
       rcases lu with ⟨hk', _⟩ | ⟨_, c, hc, hcell⟩
       . exfalso
         have hk'' : X.env.scope.names.lookup x = some .local := hk'
         rcases hk with h | h <;> rw [h] at hk'' <;> cases hk''
       . right
         obtain ⟨k', r1, r2⟩ := relabel_look (scope := scope) (env := X.env) hfr
         refine ⟨?_, ?_⟩
         . rcases r2 with z | ⟨_, z⟩
           . right; rw [z] at r1; exact r1
           . left; rw [z] at r1; exact r1
         . obtain ⟨c', hc'⟩ := closeL_has (env := X.env) (cs := []) (.inl (mem_of_lookup hfr))
           have := (S.clook I.ok hc').1
           rw [hc] at this
           cases this
           obtain ⟨o, ho', hd⟩ := hcell
           exact ⟨c, hc', o, kp _ _ ho', hd⟩
 cell := fun x c h => by
   obtain ⟨v, o, ho, hd⟩ := I.cell x c (S.clook I.ok h).1
   exact ⟨v, o, kp _ _ ho, hd⟩
 free := by
   show (upd H D _) C = none
   rw [qah (Ne.symm hDC)]
   exact I.hok.fresh hC
 freeC := fun x c h => by
   have h1 := (S.clook I.ok h).1
   obtain ⟨v, o, ho, hd⟩ := I.cell x c h1
   rw [qah (Nat.ne_of_lt (Nat.lt_of_lt_of_le (Heap.lt_size ho) hD))]
   exact I.freeC x c h1
 pin := fun p hp => by
   have hp' : p ∈ X.pn ++ pins := by
     have : p ∈ (X.pn ++ pins) ++ [] := hp
     simpa using this
   obtain ⟨e, n, ne, nf, d⟩ := I.pin p hp'
   have hlt := Heap.lt_size e
   refine ⟨kp _ _ e, ?_, Nat.ne_of_lt (Nat.lt_of_lt_of_le hlt hC), fun hm => ?_, d⟩
   . rw [qah (Nat.ne_of_lt (Nat.lt_of_lt_of_le hlt hD))]; exact n
   . rcases List.mem_cons.mp (I.stkSub p.1 hm) with z | z
     . exact ne z
     . exact nf z
 hok := I.hok.laid kp hD ⟨Nat.zero_le _, [], n₀, .nil, hl⟩
 len := by
   have hix := S.ixs
   unfold ixOk at hix
   rw [Bool.and_eq_true] at hix
   have : ix.length = N'.length := by simpa using hix.1
   show (stC ix σ).length = N'.length
   unfold stC
   rw [List.length_map, this]
theorem inv_back {C : Addr} {fp : List Addr} {σ' : St} {H' : Hp} {s' : Shared} {pl : List (Addr × Obj)} (I : Inv X pins σ H s) (hf : ∀ b ∈ fp, FpOk X pins H b) (J : Inv (cxC X N' scope C s H fp pins) pl σ' H' s') : Inv X pins σ H' s' :=
 I.call' (ch := fp) J.os J.base J.hok J.bare fun b hb => ⟨(hf b hb).2.2.2.1, (hf b hb).2.1, (hf b hb).2.2.2.2.1, (hf b hb).2.2.2.2.2⟩
theorem inv_gone {C : Addr} {H' : Hp} {s₀ s' : Shared} {h' : Heap} (I₀ : Inv X pins σ H s₀) (I : Inv X pins σ H' s') (hC : s₀.heap.objs.size <= C) (hn : H' C = none) (sb : Heap.SameBut C s'.heap h') : Inv X pins σ H' { s' with heap := h' } := by
 refine I.turned (it := C) (t' := s'.toks) (fun b o hb e => (sb.2 b hb).trans e) hn (Nat.ne_of_gt (Nat.lt_of_lt_of_le I₀.lt hC)) (.inr (Nat.le_trans I₀.sz hC)) (fun x c e z => ?_) fun p hp z => ?_
 . obtain ⟨v, q⟩ := I₀.cell x c e
   exact absurd (Nat.lt_of_lt_of_le q.lt (by rw [z]; exact hC)) (Nat.lt_irrefl _)
 . exact absurd (Nat.lt_of_lt_of_le (Heap.lt_size (I₀.pin p hp).1) (by rw [z]; exact hC)) (Nat.lt_irrefl _)
end
def PTs (X : Cx) (ifs : List Expr) (t : TT) : Prop :=
 ∀ (pins : List (Addr × Obj)) (s : Shared) (σ : St) (H : Hp) (Q : Bool -> Hp -> Prop), Inv X pins σ H s -> t σ H Q →
   wpAny (model X.prog X.w) X.A (forIn ifs true fun c r => if r = true then do let ok ← isTrue c X.env (eval c X.env); pure (ForInStep.yield ok) else pure (ForInStep.yield r)) (TP X pins σ Q) X.xe s
@[irreducible] def JTs (X : Cx) (ifs : List Expr) (t : TT) : Prop := PTs X ifs t
theorem JTs.of {X : Cx} {ifs : List Expr} {t : TT} (h : PTs X ifs t) : JTs X ifs t := by unfold JTs; exact h
theorem JTs.to {X : Cx} {ifs : List Expr} {t : TT} (h : JTs X ifs t) : PTs X ifs t := by unfold JTs at h; exact h
def tYes : TT := fun _ H Q => Q true H
theorem qbo {X : Cx} : JTs X [] tYes := .of (by
 exact fun _ _ _ H _ I h => wpAny_tests_nil ⟨H, I, h⟩)
theorem qbr {X : Cx} {c : Expr} {t : TT} (h : JT X c t) : JTs X [c] t := .of (by
 have h := h.to
 exact fun pins s σ H Q I hw => wpAny_tests_one (h pins s σ H Q I hw))
section
variable {prog : Program} {w : World} {A : Around} {R : Result -> Shared -> Prop} {s : Shared}
theorem compLoop_own {elt target iter : Expr} {ifs : List Expr} {scope : Scope} {pos : Pos} {it acc : Value} {env : Env} (I : Nat -> Shared -> Prop)
   (turn : ∀ n s, I n s -> wpAny (model prog w) A (pyNext it) (fun r s₁ => match r with
     | none => R (.ok .next) s₁
     | some v => wpAny (model prog w) A (letOwnedTupleGo target it v) (fun _ s₁' => wpAny (model prog w) A (assign target env v) (fun _ s₂ =>
         wpAny (model prog w) A (forIn ifs true fun c r => if r = true then do let ok ← isTrue c env (eval c env); pure (ForInStep.yield ok) else pure (ForInStep.yield r)) (fun ok s₃ =>
           if ok = true then wpAny (model prog w) A (eval elt env) (fun x s₄ =>
             wpAny (model prog w) A (call (.builtin "list.append") [acc, x]) (fun _ s₅ => ∃ m, m < n /\ I m s₅) (fun _ _ => False) s₄) (fun _ _ => False) s₃
           else ∃ m, m < n /\ I m s₃) (fun _ _ => False) s₂) (fun _ _ => False) s₁') (fun _ _ => False) s₁) (fun _ _ => False) s)
   (n : Nat) (h : I n s) :
   codeAny (model prog w) A (.compLoop (.ListComp elt [⟨target, iter, ifs, 0⟩] scope pos) 0 it acc env) R s := by
 refine codeAny_loop rfl I (fun n s hI => ?_) n h
 show wpAny _ A ((compTurn (.ListComp elt [⟨target, iter, ifs, 0⟩] scope pos) 0 it acc env).onRaise (fun x => do noteFrame x env; theTreesLotGoes x)) _ _ s
 refine wpAny_noted ?_
 rw [compTurn_list]
 refine wpAny_bind (wpAny_standAt (wpAny_bind (wpAny_mono (turn n s hI) (fun r s₁ h₁ => ?_) fun _ _ h' => h'.elim)))
 cases r with
 | none => exact wpAny_pure h₁
 | some v =>
   refine wpAny_bind (wpAny_mono h₁ (fun _ s₁' h₁' => ?_) fun _ _ h' => h'.elim)
   refine wpAny_bind (wpAny_mono h₁' (fun _ s₂ h₂ => wpAny_bind (wpAny_mono h₂ (fun ok s₃ h₃ => ?_) fun _ _ h' => h'.elim)) fun _ _ h' => h'.elim)
   cases ok with
   | false => exact wpAny_pure ⟨rfl, h₃⟩
   | true =>
     exact wpAny_bind (wpAny_bind (wpAny_mono h₃ (fun x s₄ h₄ => wpAny_bind (wpAny_mono h₄ (fun _ s₅ h₅ => wpAny_pure (wpAny_pure ⟨rfl, h₅⟩)) fun _ _ h' => h'.elim)) fun _ _ h' => h'.elim))
end
def tBlk (J : It) (g : TG) (tt : TT) (te : TE) (D : Addr) (σ : St) (H : Hp) (Q : Hp -> Prop) : Prop :=
 ∃ W : Nat -> Nat -> St -> Hp -> Prop, (∃ m, W 0 m σ (upd H D (.lst []))) /\ ∀ i m σ' H', W i m σ' H' →
   (J.stop i H' /\ Q H') ∨ (J.go i H' /\ ∃ N : St -> Hp -> Prop, (∀ σ2 H2, N σ2 H2 -> ∃ m', m' < m /\ W (i + 1) m' σ2 H2) /\ ∀ x H2, J.yld i H' x H2 -> g x σ' H2 fun σ2 H3 => tt σ2 H3 fun b H4 =>
     if b = true then te σ2 H4 fun v H5 => ∃ ys, H5 D = some (.lst ys) /\ ys.length < sizeLine /\ N σ2 (upd H5 D (.lst (ys ++ [v]))) else N σ2 H4)
def tLC (wi : TI) (ix : List (Option Nat)) (g : TG) (tt : TT) (te : TE) : TE := fun σ H Q => wi σ H fun J H1 => ∀ D, H1 D = none -> tBlk J g tt te D (stC ix σ) H1 fun H2 => Q (.ref D) H2
section
variable {X : Cx} {N' : List Str} {ix : List (Option Nat)} {scope : Scope}
theorem block_run {elt iter target : Expr} {ifs : List Expr} {pos : Pos} {g : TG} {tt : TT} {te : TE} {pins : List (Addr × Obj)} {σ : St} {H : Hp} {s : Shared} {it : Addr} {fp : List Addr} {tn : Nat -> Heap -> Prop} {J : It} {E : Value -> Shared -> Prop}
   {RR : Value -> Addr -> Result -> Shared -> Prop} {Q : Addr -> Hp -> Prop}
   (hc : X.calm = true) (S : CScope X N' ix scope) (I : Inv X pins σ H s) (T : Turn X.prog X.w X.K target J fp it tn) (st : tn 0 s.heap) (hf : ∀ b ∈ fp, FpOk X pins H b)
   (hb : ∀ C s₂ H₂ fp pins, PG (cxC X N' scope C s₂ H₂ fp pins) target g /\ PTs (cxC X N' scope C s₂ H₂ fp pins) ifs tt /\ PE (cxC X N' scope C s₂ H₂ fp pins) elt te)
   (h : ∀ D, H D = none -> tBlk J g tt te D (stC ix σ) H (Q D))
   (fin : ∀ (D C : Addr) (H' : Hp) (s' : Shared) (m : Str -> Option Value), s.heap.objs.size <= C -> H' C = none -> s'.heap.Ns C m -> Inv X pins σ H' s' -> Q D H' -> RR (.ref D) C (.ok .next) s') :
   wpAny (model X.prog X.w) X.A (newList []) (fun acc s₃ => wpAny (model X.prog X.w) X.A (newFunctionEnv scope X.env.globals (closeL X.env scope.names []) [] X.env.qual none .none (some X.env)) (fun cenv s₄ =>
     codeAny (model X.prog X.w) X.A (.compStart (.ListComp elt [⟨target, iter, ifs, 0⟩] scope pos) 0 (.ref it) acc { cenv with scope := relabel scope X.env }) (RR acc cenv.locals) s₄) E s₃) E s := by
 have hfo : ∀ b ∈ fp, b < s.heap.objs.size := fun b hb => by
   obtain ⟨o, e, _⟩ := T.obj _ _ st b hb
   exact Heap.lt_size e
 refine wpAny_newObj_type (wpAny_newFunctionEnv S.cellH (by intro y hy; simp at hy) (fun h₁ hns₁ hsb₁ => ?_) S.kind)
 dsimp only at hns₁ hsb₁ ⊢
 generalize hH2 : s.heap.push { cls := .type "list", dict := none, data := .seq ([] : List Value).toArray } = H2 at hns₁ hsb₁ ⊢
 have hC : H2.objs.size = s.heap.objs.size + 1 := by rw [← hH2, Heap.size_push]
 have hDC : s.heap.objs.size ≠ H2.objs.size := by rw [hC]; exact Nat.ne_of_lt (Nat.lt_succ_self _)
 have hCle : s.heap.objs.size <= H2.objs.size := by rw [hC]; exact Nat.le_succ _
 have below : ∀ b, b < s.heap.objs.size -> b ≠ H2.objs.size := fun b hb => by rw [hC]; exact Nat.ne_of_lt (Nat.lt_succ_of_lt hb)
 have old : ∀ b o, s.heap.get? b = some o -> h₁.get? b = some o := fun b o e => hsb₁.extBut b o (below b (Heap.lt_size e)) (Heap.get?_push_of_some _ (hH2 ▸ Heap.get?_push_of_some _ e))
 have hacc : h₁.get? s.heap.objs.size = some { cls := .type "list", data := .seq #[] 0 } := hsb₁.extBut _ _ hDC (Heap.get?_push_of_some _ (hH2 ▸ Heap.get?_push_size _ rfl))
 obtain ⟨W, ⟨m0, w0⟩, turn⟩ := h s.heap.objs.size (I.hok.fresh (Nat.le_refl _))
 have I1 : Inv (cxC X N' scope H2.objs.size s H fp pins) [] (stC ix σ) (upd H s.heap.objs.size (.lst [])) { s with heap := h₁, toks := s.toks + ([] : List (Str × Value)).length } :=
   inv_block S I hf hfo (Nat.le_refl _) hCle hDC old hns₁ hacc
 have st₁ : tn 0 h₁ := T.keep _ _ _ st fun b hb o e => old b o e
 have fpn : ∀ b ∈ fp, (upd H s.heap.objs.size (.lst [])) b = none := fun b hb => by
   rw [qah (Nat.ne_of_lt (hfo b hb))]
   exact (hf b hb).1
 obtain ⟨hg, htt, hte⟩ := hb H2.objs.size s H fp pins
 have okY := I1.ok
 have stat : ∀ {H' : Hp}, (∀ b ∈ fp, H' b = none) -> ∀ b ∈ fp, FpOk (cxC X N' scope H2.objs.size s H fp pins) [] H' b := fun {H'} hn b hb =>
   ⟨hn b hb, (okY.exf b hb).1, okY.exfs b hb, .inl hb, (okY.exf b hb).2, fun p hp => by
     have hp' : p ∈ X.pn ++ pins := by
       have : p ∈ (X.pn ++ pins) ++ [] := hp
       simpa using this
     exact (hf b hb).2.2.2.2.2 p hp'⟩
 have loop : codeAny (model X.prog X.w) X.A (.compLoop (.ListComp elt [⟨target, iter, ifs, 0⟩] scope pos) 0 (.ref it) (.ref s.heap.objs.size) (compEnvC scope (closeL X.env scope.names []) H2.objs.size X.env))
     (RR (.ref s.heap.objs.size) H2.objs.size) { s with heap := h₁, toks := s.toks + ([] : List (Str × Value)).length } := by
   refine compLoop_own (fun n s' => ∃ i σ' H', Inv (cxC X N' scope H2.objs.size s H fp pins) [] σ' H' s' /\ tn i s'.heap /\ (∀ b ∈ fp, H' b = none) /\ W i n σ' H') ?_ m0 ⟨0, _, _, I1, st₁, fpn, w0⟩
   rintro n s3 ⟨i, σ3, H3, I3, st3, fr3, w3⟩
   rcases turn i n σ3 H3 w3 with ⟨stop, qn⟩ | ⟨go, NN, hNN, step⟩
   . refine thn (T.done (cxC X N' scope H2.objs.size s H fp pins) rfl rfl rfl hc i [] s3 σ3 H3 _ I3 (stat fr3) st3 stop) fun r s4 ⟨hr, I4⟩ => ?_
     subst hr
     obtain ⟨mm, hnm, _⟩ := I4.loc
     exact fin _ _ H3 s4 mm hCle I4.free hnm (inv_back I hf I4) qn
   . refine thn (T.item (cxC X N' scope H2.objs.size s H fp pins) rfl rfl rfl hc i [] s3 σ3 H3 _ I3 (stat fr3) st3 go) fun r s4 ⟨u, hr, h4⟩ => ?_
     subst hr
     refine thn h4 fun _ s5 ⟨x, H5, I5, r5, y5, st5, fr5⟩ => ?_
     have I5' := I5.pinned (stat fr5) (T.obj _ _ st5)
     refine thn (hg _ s5 σ3 H5 x u _ I5' r5 (step x H5 y5)) fun _ s6 ⟨σ6, H6, I6, q6⟩ => ?_
     refine thn (htt _ s6 σ6 H6 _ I6 q6) fun ok s7 ⟨H7, I7, q7⟩ => ?_
     have again : ∀ {σ8 : St} {H8 : Hp} {s8 : Shared}, Inv (cxC X N' scope H2.objs.size s H fp pins) ([] ++ pinsAt fp s5.heap) σ8 H8 s8 -> NN σ8 H8 →
         ∃ m, m < n /\ ∃ i σ' H', Inv (cxC X N' scope H2.objs.size s H fp pins) [] σ' H' s8 /\ tn i s8.heap /\ (∀ b ∈ fp, H' b = none) /\ W i m σ' H' := fun {σ8 H8 s8} I8 n8 => by
       obtain ⟨m', hm, w8⟩ := hNN σ8 H8 n8
       refine ⟨m', hm, i + 1, σ8, H8, I8.unpinned, T.keep _ _ _ st5 fun b hb o e => (I8.pin (b, o) (List.mem_append_right _ (List.mem_append_right _ (mem_pinsAt hb e)))).1, fun b hb => ?_, w8⟩
       obtain ⟨o, e, d⟩ := T.obj _ _ st5 b hb
       exact (I8.pin (b, o) (List.mem_append_right _ (List.mem_append_right _ (mem_pinsAt hb e)))).2.1
     cases ok with
     | false =>
       rw [if_neg Bool.false_ne_true] at q7 ⊢
       exact again I7 q7
     | true =>
       rw [if_pos rfl] at q7 ⊢
       refine thn (hte _ s7 σ6 H7 _ I7 q7) fun v s8 ⟨y, H8, I8, r8, q8⟩ => ?_
       obtain ⟨ys, hy, hz, q8⟩ := q8
       refine thn (mt_append (X := cxC X N' scope H2.objs.size s H fp pins) _ s8 σ6 H8 (.ref s.heap.objs.size) [y] (.ref s.heap.objs.size) [v] (fun _ H9 => NN σ6 H9) I8 rfl (.cons r8 .nil) ⟨_, ys, y, rfl, rfl, hy, hz, q8⟩) fun _ s9 ⟨_, H9, I9, _, q9⟩ => ?_
       exact again I9 q9
 exact codeAny_compStart_list loop (T.self X.A 0 _ _ _ st₁ loop)
theorem pe_lc {elt iter target : Expr} {ifs : List Expr} {pos : Pos} {wi : TI} {g : TG} {tt : TT} {te : TE} (hc : X.calm = true) (S : CScope X N' ix scope) (hi : PI X target iter wi)
   (hb : ∀ C s₂ H₂ fp pins, PG (cxC X N' scope C s₂ H₂ fp pins) target g /\ PTs (cxC X N' scope C s₂ H₂ fp pins) ifs tt /\ PE (cxC X N' scope C s₂ H₂ fp pins) elt te)
   (hs : ∀ x, foldedSetIterable iter X.env x = pure x := by intro _; rfl) : PE X (.ListComp elt [⟨target, iter, ifs, 0⟩] scope pos) (tLC wi ix g tt te) := by
 intro pins s σ H Q I h
 rw [eval_ListComp]
 refine wpAny_comprehension_free (use := none) rfl hs (closureFor_eq (S.freeH I.ok)) S.kind S.locH ?_
 refine thn (hi pins s σ H _ I h) fun xv s1 h1 => thn h1 fun itv s2 h2 => ?_
 obtain ⟨it, fp, tn, J, H2, e, I2, T, st2, f2, q2⟩ := h2
 subst e
 refine block_run (RR := fun acc C => compPost (model X.prog X.w) X.A X.xe none (EP X pins σ Q) acc C) (Q := fun D H' => Q (.ref D) H') hc S I2 T st2 f2 hb q2 ?_
 intro D C H' s' m hC hn hm I' q
 exact ⟨m, hm, fun h' sb => ⟨.ref D, H', inv_gone I2 I' hC hn sb, rfl, q⟩⟩
theorem qcg {elt iter target : Expr} {ifs : List Expr} {pos : Pos} {wi : TI} {g : TG} {tt : TT} {te : TE} (hc : X.calm = true) (S : CScope X N' ix scope) (hi : JI X target iter wi) (hb : ∀ C s₂ H₂ fp pins, JG (cxC X N' scope C s₂ H₂ fp pins) target g /\ JTs (cxC X N' scope C s₂ H₂ fp pins) ifs tt /\ JE (cxC X N' scope C s₂ H₂ fp pins) elt te) (hs : ∀ x, foldedSetIterable iter X.env x = pure x := by intro _; rfl) : JE X (.ListComp elt [⟨target, iter, ifs, 0⟩] scope pos) (tLC wi ix g tt te) := .of (pe_lc hc S hi.to (fun C s₂ H₂ fp pins => ⟨(hb C s₂ H₂ fp pins).1.to, (hb C s₂ H₂ fp pins).2.1.to, (hb C s₂ H₂ fp pins).2.2.to⟩) hs)
theorem ps_setLC {i : Nat} {x : Str} {elt iter target : Expr} {ifs : List Expr} {pos spos px : Pos} {wi : TI} {g : TG} {tt : TT} {te : TE} (hN : X.N.Nodup) (hxi : X.N[i]? = some x) (hx : Loc X.env.scope x) (hc : X.calm = true) (S : CScope X N' ix scope) (hi : PI X target iter wi)
   (hb : ∀ C s₂ H₂ fp pins, PG (cxC X N' scope C s₂ H₂ fp pins) target g /\ PTs (cxC X N' scope C s₂ H₂ fp pins) ifs tt /\ PE (cxC X N' scope C s₂ H₂ fp pins) elt te)
   (hsw : swapsWith (.ListComp elt [⟨target, iter, ifs, 0⟩] scope pos) (some (.Name x px)) spos.line X.env = pure true := by rfl)
   (hs : ∀ x, foldedSetIterable iter X.env x = pure x := by intro _; rfl) (hf : X.fn x = true ∨ X.env.scope.names.lookup x = some .local := by first | exact .inl rfl | exact .inr rfl | assumption) :
   PS X (.Assign [.Name x px] (.ListComp elt [⟨target, iter, ifs, 0⟩] scope pos) spos) (tAsg (tLC wi ix g tt te) (gName i)) := by
 intro pins s σ H D I h
 rw [exec_Assign_Name_used _ _ _ _ hsw]
 refine wpAny_bind (wpAny_standAt (wpAny_bind ?_))
 show wpAny _ X.A (do let _ ← comprehension (.ListComp elt [⟨target, iter, ifs, 0⟩] scope pos) scope X.env _ (newList []) false (eval iter X.env) (some (assign (.Name x px) X.env))) _ _ s
 refine wpAny_bind (thn (wpAny_comprehension_free (use := some (assign (.Name x px) X.env)) (Q := fun _ s' => SP X pins D .next s') rfl hs (closureFor_eq (S.freeH I.ok)) S.kind S.locH ?_) fun _ s' hq => wpAny_pure (wpAny_pure hq))
 refine thn (hi pins s σ H _ I h) fun xv s1 h1 => thn h1 fun itv s2 h2 => ?_
 obtain ⟨it, fp, tn, J, H2, e, I2, T, st2, f2, q2⟩ := h2
 subst e
 refine block_run (RR := fun acc C => compPost (model X.prog X.w) X.A X.xe (some (assign (.Name x px) X.env)) (fun _ s' => SP X pins D .next s') acc C) (Q := fun D' H' => gName i (.ref D') σ H' D.nx) hc S I2 T st2 f2 hb q2 ?_
 intro D' C H' s' m hC hn hm I' q
 show wpAny _ X.A (assign (.Name x px) X.env (.ref D')) _ _ _
 refine wpAny_assign_Name (store_ok2 I' hN hxi hx (v := .ref D') rfl (fun s'' I'' hch => ?_) hf)
 obtain ⟨a, sb, ha⟩ := hch
 have hCa : C ≠ a := by
   rcases ha with z | z
   . rw [z]; exact Nat.ne_of_gt (Nat.lt_of_lt_of_le I2.lt hC)
   . intro e
     obtain ⟨v, qc⟩ := I2.cell x a z
     exact absurd (Nat.lt_of_lt_of_le qc.lt (by rw [← e]; exact hC)) (Nat.lt_irrefl _)
 refine ⟨m, hm.sameBut sb hCa, fun h' sb' => ?_⟩
 refine ⟨_, H', ?_, q⟩
 refine I''.turned (it := C) (t' := s''.toks) (fun b o hb e => (sb'.2 b hb).trans e) hn (Nat.ne_of_gt (Nat.lt_of_lt_of_le I2.lt hC)) (.inr (Nat.le_trans I2.sz hC)) (fun y c e z => ?_) fun p hp z => ?_
 . obtain ⟨v, qc⟩ := I2.cell y c e
   exact absurd (Nat.lt_of_lt_of_le qc.lt (by rw [z]; exact hC)) (Nat.lt_irrefl _)
 . exact absurd (Nat.lt_of_lt_of_le (Heap.lt_size (I2.pin p hp).1) (by rw [z]; exact hC)) (Nat.lt_irrefl _)
theorem qcw {i : Nat} {x : Str} {elt iter target : Expr} {ifs : List Expr} {pos spos px : Pos} {wi : TI} {g : TG} {tt : TT} {te : TE} (hN : X.N.Nodup) (hxi : X.N[i]? = some x) (hx : Loc X.env.scope x) (hc : X.calm = true) (S : CScope X N' ix scope) (hi : JI X target iter wi) (hb : ∀ C s₂ H₂ fp pins, JG (cxC X N' scope C s₂ H₂ fp pins) target g /\ JTs (cxC X N' scope C s₂ H₂ fp pins) ifs tt /\ JE (cxC X N' scope C s₂ H₂ fp pins) elt te) (hsw : swapsWith (.ListComp elt [⟨target, iter, ifs, 0⟩] scope pos) (some (.Name x px)) spos.line X.env = pure true := by rfl) (hs : ∀ x, foldedSetIterable iter X.env x = pure x := by intro _; rfl) (hf : X.fn x = true ∨ X.env.scope.names.lookup x = some .local := by first | exact .inl rfl | exact .inr rfl | assumption) : JS X (.Assign [.Name x px] (.ListComp elt [⟨target, iter, ifs, 0⟩] scope pos) spos) (tAsg (tLC wi ix g tt te) (gName i)) := .of (ps_setLC hN hxi hx hc S hi.to (fun C s₂ H₂ fp pins => ⟨(hb C s₂ H₂ fp pins).1.to, (hb C s₂ H₂ fp pins).2.1.to, (hb C s₂ H₂ fp pins).2.2.to⟩) hsw hs hf)
end
end L2
set_option Elab.async false
set_option linter.all false
set_option maxRecDepth 100000
set_option maxHeartbeats 4000000
namespace L2
open PySem PySem.Spec PyProof.Rows
def Its (x : Str) : It := ⟨fun i _ => i < x.cps.size, fun i H v H' => H' = H /\ ∃ c, x.cps[i]? = some c /\ v = .str ⟨#[c]⟩, fun i _ => i = x.cps.size⟩
theorem turn_str {P : Program} {w : World} {K : PySem.W.Frag} {tg : Expr} (it : Addr) (x : Str) (t : Tok) (ty : String)
   (hn : ["enumerate", "zip", "dict_itemiterator", "dict_reverseitemiterator", "odict_iterator", "itertools.zip_longest", "itertools.pairwise"].contains ty = false)
   (hW : ∀ A : Around, A.handled = none -> Walks P w A it [it] [it] x.cps.size (SignAt x) (fun i h => h.IsStrIter it ty x t i))
   (hself : ∀ (A : Around) (i : Nat) (s : Shared) (Q : Value -> Shared -> Prop) (E : Value -> Shared -> Prop), s.heap.IsStrIter it ty x t i -> Q (.ref it) s -> wpAny (model P w) A (pyIter (.ref it)) Q E s) :
   Turn P w K tg (Its x) [it] it (fun i h => h.IsStrIter it ty x t i) where
 mem := by simp
 obj := fun i h st b hb => by
   have e : b = it := by simpa using hb
   subst e
   obtain ⟨o, e, c, d⟩ := st
   exact ⟨o, e, fun v z => by rw [d] at z; cases z⟩
 keep := fun i h h' st k => let ⟨o, e, r⟩ := st; ⟨o, k it (by simp) o e, r⟩
 item := by
   intro X hP hw hK hc i pins s σ H E I hf st hg
   subst hP hw hK
   obtain ⟨f0, f1, f2, f3, f4, f5⟩ := hf it (by simp)
   refine (hW X.A (I.ok.hd hc)).item i s _ _ hg st fun v h' tk hv st' kk => ?_
   obtain ⟨c, u, hcu, rfl⟩ := hv
   have I1 : Inv X pins σ H { s with heap := h', toks := tk } := I.turned (fun b o hb e => kk b o (by simpa using hb) e) f0 f1 f3 f4 f5
   obtain ⟨o, e, c1, d1⟩ := id st'
   exact ⟨_, rfl, go_of (s := { s with heap := h', toks := tk }) e c1 d1 hn ⟨.str ⟨#[c]⟩, H, I1, ⟨u, rfl⟩, ⟨rfl, c, hcu, rfl⟩, st', fun b hb => (hf b hb).1⟩⟩
 done := by
   intro X hP hw hK hc i pins s σ H E I hf st hg
   subst hP hw hK
   obtain ⟨f0, f1, f2, f3, f4, f5⟩ := hf it (by simp)
   have hi : i = x.cps.size := hg
   subst hi
   exact (hW X.A (I.ok.hd hc)).done s _ _ st fun h' tk kk => ⟨rfl, I.turned (fun b o hb e => kk b o (by simpa using hb) e) f0 f1 f3 f4 f5⟩
 self := hself
def iStr (tl : TE) : TI := fun σ H R => tl σ H fun x H1 => ∃ y, x = .str y /\ R (Its y) H1
theorem ji_str {X : Cx} {tg l : Expr} {tl : TE} (hl : JE X l tl) : JI X tg l (iStr tl) := .of (by
 have hl := hl.to
 intro pins s σ H R I h
 refine thn (hl pins s σ H _ I h) fun v s1 ⟨x, H1, I1, r1, q1⟩ => ?_
 obtain ⟨y, e, q⟩ := q1
 subst e
 obtain ⟨t, rfl⟩ := r1
 have fp : ∀ b ∈ [s1.heap.objs.size], FpOk X pins H1 b := fun b hb => by
   have e : b = s1.heap.objs.size := by simpa using hb
   subst e
   exact I1.fpOk (Nat.le_refl _) (I1.hok.fresh (Nat.le_refl _))
 cases ha : y.cps.all (· < 128)
 . refine wpAny_pyIter_wide ha ?_
   exact ⟨s1.heap.objs.size, [s1.heap.objs.size], _, _, H1, rfl, I1.kept (t' := s1.toks) fun b o e => Heap.get?_push_of_some _ e,
     turn_str _ y t "str_iterator" (by decide) (fun A hA => Walks.strWide hA _ y t) (fun A i s Q E st q => wpAny_pyIter_striter_wide st q), ⟨_, Heap.get?_push_size _ rfl, rfl, rfl⟩, fp, q⟩
 . refine wpAny_pyIter_ascii ha ?_
   exact ⟨s1.heap.objs.size, [s1.heap.objs.size], _, _, H1, rfl, I1.kept (t' := s1.toks) fun b o e => Heap.get?_push_of_some _ e,
     turn_str _ y t "str_ascii_iterator" (by decide) (fun A hA => Walks.strAscii hA _ y t) (fun A i s Q E st q => wpAny_pyIter_striter_ascii st q), ⟨_, Heap.get?_push_size _ rfl, rfl, rfl⟩, fp, q⟩)
section
variable {K : PySem.W.Frag} {g : TG} {tt : TT} {te : TE} {D a : Addr} {σ : St} {H : Hp} {Q : Hp -> Prop}
def bTurn (tt : TT) (te : TE) (D : Addr) (N : St -> Hp -> Prop) : St -> Hp -> Prop := fun σ2 H3 => tt σ2 H3 fun b H4 =>
 if b = true then te σ2 H4 fun v H5 => ∃ ys, H5 D = some (.lst ys) /\ ys.length < sizeLine /\ N σ2 (upd H5 D (.lst (ys ++ [v]))) else N σ2 H4
theorem blk_of {J : It} {n : Nat} (Pv : Nat -> St -> Hp -> Prop) (h0 : Pv 0 σ (upd H D (.lst [])))
   (go : ∀ i σ' H', i < n -> Pv i σ' H' -> J.go i H' /\ ∀ x H2, J.yld i H' x H2 -> g x σ' H2 (bTurn tt te D (Pv (i + 1)))) (stop : ∀ σ' H', Pv n σ' H' -> J.stop n H' /\ Q H') : tBlk J g tt te D σ H Q := by
 refine ⟨fun i m σ' H' => m = n - i /\ i <= n /\ Pv i σ' H', ⟨n, by simp, Nat.zero_le _, h0⟩, ?_⟩
 rintro i m σ' H' ⟨rfl, hi, p⟩
 by_cases hlt : i < n
 . obtain ⟨h1, h2⟩ := go i σ' H' hlt p
   exact .inr ⟨h1, Pv (i + 1), fun σ2 H2 p2 => ⟨n - (i + 1), by omega, rfl, hlt, p2⟩, h2⟩
 . have e : i = n := by omega
   subst e
   exact .inl (stop σ' H' p)
theorem blk_range {lo : Int} {n : Nat} (Pv : Nat -> St -> Hp -> Prop) (h0 : Pv 0 σ (upd H D (.lst [])))
   (hs : ∀ i σ' H', i < n -> Pv i σ' H' -> g (.int (lo + i)) σ' H' (bTurn tt te D (Pv (i + 1)))) (hd : ∀ σ' H', Pv n σ' H' -> Q H') : tBlk (Itr lo n) g tt te D σ H Q :=
 blk_of (n := n) Pv h0 (fun i σ' H' hi p => ⟨hi, fun x H2 y => by
   obtain ⟨e, y⟩ := y
   subst e y
   exact hs i σ' H2 hi p⟩) fun σ' H' p => ⟨Nat.le_refl _, hd σ' H' p⟩
theorem qbk {xs : List V} (Pv : Nat -> St -> Hp -> Prop) (h0 : Pv 0 σ (upd H D (.lst []))) (hl : ∀ i σ' H', i <= xs.length -> Pv i σ' H' -> SqL K H' a xs)
   (hs : ∀ i x σ' H', xs[i]? = some x -> Pv i σ' H' -> g x σ' H' (bTurn tt te D (Pv (i + 1)))) (hd : ∀ σ' H', Pv xs.length σ' H' -> Q H') : tBlk (Itl K a) g tt te D σ H Q :=
 blk_of (n := xs.length) Pv h0 (fun i σ' H' hi p => ⟨⟨xs, xs[i], hl i σ' H' (Nat.le_of_lt hi) p, by simp [hi]⟩, fun x H2 y => by
   obtain ⟨e, y⟩ := y
   subst e
   exact hs i x σ' _ (y xs (hl i σ' _ (Nat.le_of_lt hi) p)) p⟩) fun σ' H' p => ⟨⟨xs, hl _ σ' H' (Nat.le_refl _) p, Nat.le_refl _⟩, hd σ' H' p⟩
theorem blk_tup {xs : List V} (Pv : Nat -> St -> Hp -> Prop) (h0 : Pv 0 σ (upd H D (.lst []))) (hl : ∀ i σ' H', i <= xs.length -> Pv i σ' H' -> SqT K H' a xs)
   (hs : ∀ i x σ' H', xs[i]? = some x -> Pv i σ' H' -> g x σ' H' (bTurn tt te D (Pv (i + 1)))) (hd : ∀ σ' H', Pv xs.length σ' H' -> Q H') : tBlk (Itt K a) g tt te D σ H Q :=
 blk_of (n := xs.length) Pv h0 (fun i σ' H' hi p => ⟨⟨xs, xs[i], hl i σ' H' (Nat.le_of_lt hi) p, by simp [hi]⟩, fun x H2 y => by
   obtain ⟨e, y⟩ := y
   subst e
   exact hs i x σ' _ (y xs (hl i σ' _ (Nat.le_of_lt hi) p)) p⟩) fun σ' H' p => ⟨⟨xs, hl _ σ' H' (Nat.le_refl _) p, Nat.le_refl _⟩, hd σ' H' p⟩
theorem blk_str {x : Str} (Pv : Nat -> St -> Hp -> Prop) (h0 : Pv 0 σ (upd H D (.lst [])))
   (hs : ∀ i c σ' H', x.cps[i]? = some c -> Pv i σ' H' -> g (.str ⟨#[c]⟩) σ' H' (bTurn tt te D (Pv (i + 1)))) (hd : ∀ σ' H', Pv x.cps.size σ' H' -> Q H') : tBlk (Its x) g tt te D σ H Q :=
 blk_of (n := x.cps.size) Pv h0 (fun i σ' H' hi p => ⟨hi, fun v H2 y => by
   obtain ⟨e, c, hc, rfl⟩ := y
   subst e
   exact hs i c σ' _ hc p⟩) fun σ' H' p => ⟨rfl, hd σ' H' p⟩
end
section
variable {X : Cx}
theorem all_range_getD : ∀ (bs : List Bool), (List.range bs.length).all (fun i => bs.getD i false) = bs.all id := by
 intro bs
 induction bs with
 | nil => rfl
 | cons b bs ih =>
   rw [List.length_cons, List.range_succ_eq_map, List.all_cons, List.all_map, List.all_cons]
   have : ((fun i => (b :: bs).getD i false) ∘ Nat.succ) = fun i => bs.getD i false := by
     funext i
     simp [Function.comp]
   rw [this, ih]
   simp
theorem call_allB (hc : X.calm = true) : CallR X (.builtin "all") (fun xs H Q => ∃ (p : Addr) (bs : List Bool), xs = [.ref p] /\ SqL X.K H p (bs.map V.bl) /\ Q (.bl (bs.all id)) H) := by
 intro pins s σ H xs us Q I r h
 obtain ⟨p, bs, rfl, hq, q⟩ := h
 obtain ⟨u, rfl, rx⟩ := vals1 r
 cases rx
 obtain ⟨its, rv, pl, hz⟩ := I.list hq
 have hlt : p < s.heap.objs.size := by
   obtain ⟨o, n, e, _⟩ := pl
   exact Heap.lt_size e
 have hn : its.toArray.size = bs.length := by
   have := rv.length
   rw [List.length_map] at this
   simp only [List.size_toArray]
   omega
 have hh : X.A.in1.handled = none := I.ok.hd hc
 refine call_all_walk (wpAny_pyIter_list pl.isList ?_)
 refine ⟨s.heap.objs.size, [s.heap.objs.size, p], [s.heap.objs.size], its.toArray.size, fun i v => its.toArray[i]? = some v, _, fun i => bs.getD i false, rfl, Walks.list hh s.heap.objs.size p (Nat.ne_of_lt hlt) its.toArray,
   ⟨⟨_, Heap.get?_push_size _ rfl, rfl, rfl⟩, pl.isList.at fun o e => Heap.get?_push_of_some _ e⟩, ?_, fun h' tk hk => ?_⟩
 . intro i v s' Q' E' hP hQ
   have hi : its[i]? = some v := by simpa using hP
   have hb : ∃ b, bs[i]? = some b /\ v = Value.bool b := by
     cases e : bs[i]? with
     | none =>
       exfalso
       have h1 : (bs.map V.bl)[i]? = none := by rw [List.getElem?_map, e]; rfl
       rw [Vals.none_of rv h1] at hi
       cases hi
     | some b =>
       have h1 : (bs.map V.bl)[i]? = some (V.bl b) := by rw [List.getElem?_map, e]; rfl
       obtain ⟨u, hu, ru⟩ := rv.get h1
       rw [hi] at hu
       cases hu
       exact ⟨b, rfl, ru⟩
   obtain ⟨b, e, rfl⟩ := hb
   refine wpAny_truthy_bool ?_
   have e2 : bs.getD i false = b := by rw [List.getD_eq_getElem?_getD, e]; rfl
   have hQ' : Q' (bs.getD i false) s' := hQ
   rw [e2] at hQ'
   exact hQ'
 . rw [hn, all_range_getD]
   refine ⟨.bl (bs.all id), H, ?_, rfl, q⟩
   exact I.kept (h' := h') (t' := tk) fun b o e => hk b o (by
     intro z
     have z' : b = s.heap.objs.size := by simpa using z
     exact absurd (Heap.lt_size e) (by rw [z']; exact Nat.lt_irrefl _)) (Heap.get?_push_of_some _ e)
theorem strsAre_of {ys : List Str} : ∀ {us : List Value}, Vals (ys.map V.str) us -> StrsAre us ys := by
 induction ys with
 | nil =>
   intro us r
   rw [List.map_nil] at r
   cases r
   exact .nil
 | cons y ys ih =>
   intro us r
   rw [List.map_cons] at r
   cases r with
   | cons a b =>
     obtain ⟨t, rfl⟩ := a
     exact .cons _ _ (ih b)
def rJoin (K : PySem.W.Frag) : V -> List V -> Hp -> VK -> Prop := fun x xs H Q => ∃ (sep : Str) (p : Addr) (ys : List Str), x = .str sep /\ xs = [.ref p] /\ SqL K H p (ys.map V.str) /\ (ys.map (·.length)).sum + ys.length * sep.length <= 16777216 /\ Q (.str (Txt.join sep ys)) H
theorem mt_join : MtR X "str.join" (rJoin X.K) := by
 intro pins s σ H x xs v us Q I rx rv h
 obtain ⟨sep, p, ys, rfl, rfl, hq, hz, q⟩ := h
 obtain ⟨t, rfl⟩ := rx
 obtain ⟨u, rfl, ru⟩ := vals1 rv
 cases ru
 obtain ⟨its, r', pl, _⟩ := I.list hq
 exact join_list pl.isList (by simpa using strsAre_of r') hz fun t' k => ⟨.str _, H, I.tok k, ⟨t', rfl⟩, q⟩
def clsV : V -> Value
 | .ty n => .type n
 | .ref a => .ref a
 | _ => .none
def isCls : V -> Bool
 | .ty _ => true
 | .ref _ => true
 | _ => false
def rInst (K : PySem.W.Frag) : List V -> Hp -> VK -> Prop := fun xs H Q => ∃ x c t b, xs = [x, c] /\ isCls c = true /\ TyOf K H x t /\ PySem.W.kitOne K t (clsV c) = some b /\ Q (.bl b) H
theorem qbe : CallR X (.builtin "isinstance") (rInst X.K) := by
 intro pins s σ H xs us Q I r h
 obtain ⟨x, c, t, b, rfl, hc, ty, e, q⟩ := h
 obtain ⟨u, w', rfl, ru, rw'⟩ := vals2 r
 have ew : w' = clsV c := by
   cases c with
   | ty n => exact rw'
   | ref a => exact rw'
   | _ => cases hc
 subst ew
 exact isinst_ok I ru ty e fun tk => ⟨.bl b, H, I.tok tk, rfl, q⟩
end
end L2
namespace L2
open PySem PySem.Spec PyProof.Rows
end L2
set_option Elab.async false
set_option linter.all false
set_option maxRecDepth 100000
set_option maxHeartbeats 4000000
namespace L2
open PySem PySem.Spec PyProof.Rows
section
variable {prog : Program} {w : World} {A : Around} {E : Value -> Shared -> Prop} {h : Heap} {g : Array GenState} {d : Drawn} {t : Nat} {os : OsState}
variable {nm q : Str} {C N fI : Addr} {bs bm bmB bmN : List Value} {hdct : Bool} {sn : List Str} {sub : List Value} {ab : Bool} {col : Option Bool} {dd : Option Addr} {k0 k1 k2 k3 k5 : Option Value} {B Bn newId nid initId inN : String} {rest : List Value} {oI : Obj}
end
end L2
namespace L2
open PySem PySem.W PyProof.Rows Builtin Builtin.ObjectAttr
structure ECls (K : Frag) (C : Addr) (bm : List Value) : Prop where
 ga : findIn K (.ref C) "__getattribute__" = some (some (.builtin "BaseException.__getattribute__"))
 gt : findIn K (.ref C) "__getattr__" = some none
 sa : findIn K (.ref C) "__setattr__" = some (some (.builtin "object.__setattr__"))
 hd : hasDictIn K C = true
 mr : ∃ cd, clsIn K C = some cd /\ cd.mro = .ref C :: bm
 mb : mroIn K C (.type "BaseException") = some true
 mo : mroIn K C (.type "object") = some true
 cl : findIn K (.ref C) "__class__" = some (some (.builtin "object.__class__"))
section
variable {prog : Program} {w : World} {A : Around} {E : Value -> Shared -> Prop} {s : Shared} {K : Frag} {x C : Addr} {ox : Obj} {od : Option Obj} {bm : List Value} {name : Str} {v : Value}
end
end L2
namespace L2
open PySem PySem.W PyProof.Rows Builtin Builtin.ObjectAttr
section
variable {K : Frag} {x C : Addr} {ox odd : Obj} {bm : List Value}
end
end L2
set_option Elab.async false
set_option linter.all false
set_option maxRecDepth 100000
set_option maxHeartbeats 4000000
namespace L2
open PySem PySem.Spec PyProof.Rows
def lineV : List Value := [.type "ValueError", .type "Exception", .type "BaseException", .type "object"]
structure EMk (K : PySem.W.Frag) (C f : Addr) (bm : List Value) : Prop where
 obj : ∃ nm q N bs hdct sn sub ab col dd k0 k1 k2 k3 k5, K.lookup C = some (excClassObj nm q C N bs bm hdct sn sub ab col dd k0 k1 k2 k3 k5 "ValueError.__new__")
 tail : ∀ h : Heap, K.In h -> OwnTail h lineV bm
 init : PySem.W.findIn K (.ref C) "__init__" = some (some (.ref f))
 fn : PySem.W.isFn K (.ref f) = true
 kp : PySem.W.keepIn K (.ref C) = true
section
variable {P : Program} {w : World} {H : Hp} {h h' : Heap} {e C dx : Addr}
end
section
variable {X : Cx} {pins : List (Addr × Obj)} {σ : St} {H : Hp} {s : Shared} {e C dx : Addr} {f : Str} {bm : List Value} {y v : V} {u : Value} {A : Around} {E : Value -> Shared -> Prop}
end
end L2
namespace L2
open PySem PySem.Spec PyProof.Rows
section
variable {X : Cx} {CX : CXT} {k : Nat} {C fI : Addr} {fd : FuncData} {ps : List Str} {sp : Sp} {E : XK} {x f : Str} {o e value : Expr} {es : List Expr} {p pos pos' : Pos} {ta tv : TE} {t : TA} {bm : List Value}
end
end L2
set_option Elab.async false
set_option linter.all false
set_option maxRecDepth 100000
set_option maxHeartbeats 4000000
namespace L2
open PySem PySem.Spec PyProof.Rows
def neL (xs ys : List V) : Bool := if xs.length = ys.length then !((List.range xs.length).all fun j => eqV (xs.getD j .non) (ys.getD j .non)) else true
mutual
inductive DV (K : PySem.W.Frag) (H : Hp) : V -> PyData -> Prop
 | non : DV K H .non .none
 | bl (b : Bool) : DV K H (.bl b) (.bool b)
 | int (i : Int) : DV K H (.int i) (.int i)
 | str (x : Str) : DV K H (.str x) (.str x)
 | lst {a : Addr} {xs : List V} {ds : List PyData} : SqL K H a xs -> DVs K H xs ds -> DV K H (.ref a) (.list ds)
 | tup {a : Addr} {xs : List V} {ds : List PyData} : SqT K H a xs -> DVs K H xs ds -> DV K H (.ref a) (.tuple ds)
inductive DVs (K : PySem.W.Frag) (H : Hp) : List V -> List PyData -> Prop
 | nil : DVs K H [] []
 | cons {x : V} {xs : List V} {d : PyData} {ds : List PyData} : DV K H x d -> DVs K H xs ds -> DVs K H (x :: xs) (d :: ds)
end
section
variable {X : Cx} {pins : List (Addr × Obj)} {σ : St} {H : Hp} {s : Shared}
mutual
theorem DV.reads (I : Inv X pins σ H s) : ∀ {x : V} {d : PyData}, DV X.K H x d -> ∀ {u : Value}, RelV x u -> ∃ as, Reads s.heap u d as
 | _, _, .non, u, r => by cases (show u = Value.none from r); exact ⟨_, .none⟩
 | _, _, .bl b, u, r => by cases (show u = Value.bool b from r); exact ⟨_, .bool b⟩
 | _, _, .int i, u, r => by obtain ⟨t, q⟩ := (show ∃ t, u = Value.int i t from r); subst q; exact ⟨_, .int i t⟩
 | _, _, .str x, u, r => by obtain ⟨t, q⟩ := (show ∃ t, u = Value.str x t from r); subst q; exact ⟨_, .str x t⟩
 | _, _, .lst (a := a) hq hs, u, r => by
   cases (show u = Value.ref a from r)
   obtain ⟨its, rv, ⟨o, n, e, hc, hd, hda⟩, hz⟩ := I.list hq
   obtain ⟨as, ra⟩ := DVs.reads I hs rv
   exact ⟨_, .list e hc hda (by simpa using ra)⟩
 | _, _, .tup (a := a) hq hs, u, r => by
   cases (show u = Value.ref a from r)
   obtain ⟨its, rv, ⟨o, e, hc, n, hda⟩, hz⟩ := I.tuple hq
   obtain ⟨as, ra⟩ := DVs.reads I hs rv
   exact ⟨_, .tuple e hc hda (by simpa using ra)⟩
theorem DVs.reads (I : Inv X pins σ H s) : ∀ {xs : List V} {ds : List PyData}, DVs X.K H xs ds -> ∀ {us : List Value}, Vals xs us -> ∃ as, ReadsAll s.heap us ds as
 | _, _, .nil, _, .nil => ⟨_, .nil⟩
 | _, _, .cons h hs, _, .cons r rs => by
   obtain ⟨as, a⟩ := DV.reads I h r
   obtain ⟨bs, b⟩ := DVs.reads I hs rs
   exact ⟨_, .cons a b⟩
end
end
end L2
namespace L2
open PySem PySem.Spec PyProof.Rows
end L2
set_option Elab.async false
set_option linter.all false
set_option maxRecDepth 100000
set_option maxHeartbeats 4000000
namespace L2
open PySem PySem.Spec PyProof.Rows
structure Fly (fs : List Addr) (ex : List Addr) (h h' : Heap) : Prop where
 keep : ∀ b o, b ∉ fs -> b ∉ ex -> h.get? b = some o -> h'.get? b = some o
 slot : ∀ b o, b ∈ fs -> b ∉ ex -> h.get? b = some o -> ∃ sl, h'.get? b = some { o with slots := sl }
section
variable {M : Model} {A : Around} {E : Value -> Shared -> Prop} {s : Shared} {base : Heap} {env : Env} {outer : List Env} {L e : Addr} {cl head : Value} {d : Option Addr} {vs : Array Value} {had : Bool} {Q : Unit -> Shared -> Prop}
end
structure Track (ex : List Addr) (n : Nat) (H H' : Hp) : Prop where
 ext : ∀ b ∈ ex, ∃ φ, H b = some (.ext φ)
 same : ∀ b o, b ∉ ex -> H b = some o -> H' b = some o
 no : ∀ b, b < n -> H b = none -> H' b = none
section
variable {P : Program} {w : World} {fs ex : List Addr} {H H' : Hp} {h h' : Heap}
end
end L2
namespace L2
open PySem PySem.Spec PyProof.Rows
section
variable {X : Cx} {pins : List (Addr × Obj)} {σ : St} {H H' : Hp} {s : Shared} {h' : Heap} {ex : List Addr}
end
section
variable {P : Program} {w : World} {K : PySem.W.Frag} {mg : Str -> Option Value} {base : Heap} {N : List Str} {qual : Str} {scope : Scope} {f : Addr} {cd : Value} {A : Around} {outer : List Env} {s₀ : Shared} {H₀ : Hp} {E : XK}
end
end L2
set_option Elab.async false
set_option linter.all false
set_option maxRecDepth 100000
set_option maxHeartbeats 4000000
namespace L2
open PySem PySem.Spec PyProof.Rows
section
variable {M : Model} {A : Around} {E : Value -> Shared -> Prop} {s : Shared} {env : Env} {C : Addr}
end
section
variable {X : Cx} {E : XK} {e : Expr} {te : TE} {pos : Pos}
end
end L2
set_option Elab.async false
set_option linter.all false
set_option maxRecDepth 100000
set_option maxHeartbeats 4000000
namespace L2
open PySem PySem.Spec PyProof.Rows
section
variable {M : Model} {A : Around} {E : Value -> Shared -> Prop}
end
end L2
set_option Elab.async false
set_option linter.all false
set_option maxRecDepth 100000
set_option maxHeartbeats 4000000
namespace L2
open PySem PySem.Spec PyProof.Rows
section
variable {X : Cx} {CX : CXT} {k : Nat} {f C : Addr} {fd : FuncData} {ps : List Str} {sp : Sp} {dvs : List V} {ds : List Value} {E : St -> XK} {x m : Str} {p pos apos : Pos} {e o : Expr} {es : List Expr} {ta : TE} {t : TA}
end
end L2
set_option Elab.async false
set_option linter.all false
set_option maxRecDepth 100000
set_option maxHeartbeats 4000000
namespace L2
open PySem PySem.Spec PyProof.Rows
section
variable {X : Cx}
def rEqD (K : PySem.W.Frag) (k : Bool) : R2 := fun x y H Q => ∃ d, DV K H x d /\ DV K H y d /\ PySem.SeqAt.shaped d = true /\ Q (.bl k) H
theorem eqv_shaped {d : PyData} (h : PySem.SeqAt.shaped d = true) : PyData.eqv d d = true := PySem.SeqAt.eqv_refl d (PySem.SeqAt.canLay_of_shaped h)
theorem op_neD (hu : X.A.units + 64 < cLine) : OpR X (compareOp .NotEq) (rEqD X.K false) := by
 intro pins s σ H x y v u Q I rx ry h
 obtain ⟨d, h1, h2, hs, q⟩ := h
 obtain ⟨as, ra⟩ := h1.reads I rx
 obtain ⟨bs, rb⟩ := h2.reads I ry
 refine ne_dataH ra rb hs hs hu ?_
 rw [eqv_shaped hs]
 exact ⟨.bl false, H, I, rfl, q⟩
def CDivB (i j : Int) : Prop := 0 < j /\ j.natAbs < 2 ^ 200
theorem op_fdivB : OpR X (binaryOp .FloorDiv) (rI CDivB fun i j => .int (i / j)) := opI fun i j _ _ _ _ _ hc q => by
 have h1 : (0 : Int) < j := hc.1
 have h3 : j.natAbs.log2 < 200 := (Nat.log2_lt (by omega)).mpr hc.2
 exact floordiv_int (by omega) (by rw [Int.fdiv_eq_ediv_of_nonneg i (by omega)]; exact q) (.inl (PyProof.noPylong_of_log2 (Nat.lt_trans h3 (by decide))))
theorem mt_bitlen : MtR X "int.bit_length" (fun x xs H Q => ∃ i, x = .int i /\ xs = [] /\ Q (.int (Builtin.Int.intBits i)) H) := by
 intro pins s σ H x xs v us Q I rx rv h
 obtain ⟨i, rfl, rfl, q⟩ := h
 obtain ⟨t, rfl⟩ := rx
 cases rv
 exact call_int_bit_length ⟨.int _, H, I.tok _, ⟨_, rfl⟩, q⟩
end
section
variable {X : Cx} {tg : Expr}
end
section
variable {X : Cx} {st : Stmt} {rest : List Stmt} {t u : TS}
end
end L2
set_option Elab.async false
set_option linter.all false
set_option maxRecDepth 100000
set_option maxHeartbeats 4000000
namespace PySem
section
variable {prog : Program} {w : World} {A : Around} {E : Value -> Shared -> Prop} {s : Shared}
def rrObj (x n c : Int) : Obj := { cls := .type "range_iterator", data := .fields #[rawInt x, rawInt n, rawInt c] }
theorem rr_size (n : Nat) : Builtin.Range.rangeSize 0 n 1 = n := by
 unfold Builtin.Range.rangeSize
 rw [if_pos (by decide)]
 split <;> omega
theorem call_range_rev {r : Addr} {a b c : Int} {t u v : Tok} {Q : Value -> Shared -> Prop} (hr : IsRange s.heap r a b c t u v)
   (hs : (Builtin.Range.rangeFitsLong a && Builtin.Range.rangeFitsLong b && Builtin.Range.rangeFitsLong c && Builtin.Range.rangeFitsLong (-c) && Builtin.Range.rangeFitsLong (a - c) && Builtin.Range.rangeFitsLong (Builtin.Range.rangeSize a b c)) = true)
   (h : Q (.ref s.heap.objs.size) { s with heap := s.heap.push (rrObj (a + (Builtin.Range.rangeSize a b c - 1) * c) (Builtin.Range.rangeSize a b c) (-c)) }) : wpAny (model prog w) A (call (.builtin "range.__reversed__") [.ref r]) Q E s := by
 have ty : s.TypeIs (.ref r) "range" := ⟨_, hr, rfl⟩
 refine wpAny_call_entry F.slot_range_reversed ty F.entry_range_reversed ?_ (F.args_range_reversed_1 _)
 unfold Builtin.«range.__reversed__»
 refine wpAny_bind (wpAny_of_eq (a := Value.ref r) rfl ?_)
 refine wpAny_bind ?_
 unfold Builtin.Range.rangeFields
 refine wpAny_bind (wpAny_field hr rfl (x := .int a t) rfl ?_)
 refine wpAny_bind (m := asInt? (.int a t)) (wpAny_pure ?_)
 refine wpAny_bind (wpAny_field hr rfl (x := .int b u) rfl ?_)
 refine wpAny_bind (m := asInt? (.int b u)) (wpAny_pure ?_)
 refine wpAny_bind (wpAny_field hr rfl (x := .int c v) rfl ?_)
 refine wpAny_bind (m := asInt? (.int c v)) (wpAny_pure ?_)
 refine wpAny_pure ?_
 dsimp only
 rw [hs]
 simp only [Bool.not_true, Bool.false_eq_true, if_false, if_true]
 first
 | refine wpAny_bind (wpAny_newObj_type (wpAny_pure ⟨_, rfl, h⟩))
 | refine wpAny_bind (wpAny_pure (wpAny_bind (wpAny_newObj_type (wpAny_pure ⟨_, rfl, h⟩))))
theorem call_range_reversed {r : Addr} {n : Nat} {t u v : Tok} {Q : Value -> Shared -> Prop} (hr : IsRange s.heap r 0 n 1 t u v) (hn : n < 1048576)
   (h : Q (.ref s.heap.objs.size) { s with heap := s.heap.push (rrObj ((n : Int) - 1) n (-1)) }) : wpAny (model prog w) A (call (.builtin "range.__reversed__") [.ref r]) Q E s := by
 have f : ∀ x : Int, -2000000 <= x -> x <= 2000000 -> Builtin.Range.rangeFitsLong x = true := fun x p q => by
   unfold Builtin.Range.rangeFitsLong
   simp
   omega
 have e := rr_size n
 have hs : (Builtin.Range.rangeFitsLong 0 && Builtin.Range.rangeFitsLong (n : Int) && Builtin.Range.rangeFitsLong 1 && Builtin.Range.rangeFitsLong (-1) && Builtin.Range.rangeFitsLong (0 - 1) && Builtin.Range.rangeFitsLong (Builtin.Range.rangeSize 0 n 1)) = true := by
   rw [e, f 0 (by omega) (by omega), f n (by omega) (by omega), f 1 (by omega) (by omega), f (-1) (by omega) (by omega), f (0 - 1) (by omega) (by omega)]
   rfl
 refine call_range_rev hr hs ?_
 have e2 : (0 : Int) + (Builtin.Range.rangeSize 0 n 1 - 1) * 1 = (n : Int) - 1 := by rw [e]; omega
 rw [e2, e]
 exact h
end
end PySem
namespace PySem
section
variable {prog : Program} {w : World} {A : Around} {E : Value -> Shared -> Prop} {s : Shared}
theorem code_reversed_newR {r : Addr} {n : Nat} {t u v : Tok} {Q₁ : Value -> Shared -> Prop} (hr : IsRange s.heap r 0 n 1 t u v) (hn : n < 1048576)
   (h : Q₁ (.ref s.heap.objs.size) { s with heap := s.heap.push (rrObj ((n : Int) - 1) n (-1)) }) :
   codeAny (model prog w) A (.call (.builtin "reversed.__new__") ⟨[.type "reversed", .ref r], []⟩) (wants Q₁ E) s := by
 have ty : s.TypeIs (.ref r) "range" := ⟨_, hr, rfl⟩
 have nn : ¬ ((Value.builtin "range.__reversed__" == Value.none) = true) := Bool.false_ne_true
 refine codeAny_of_tree (show wpAny _ A.in1 (checkBuiltinCall "reversed.__new__" ⟨[.type "reversed", .ref r], []⟩ >>= fun _ => again (.builtin "reversed.__new__" ⟨[.type "reversed", .ref r], []⟩)) _ _ s from
   wpAny_bind (wpAny_of_eq (F.newCall_reversed_1 (.ref r)) (wpAny_pure ⟨plainId_quiet F.plain_reversed_new _, codeAny_builtin F.entry_reversed_new ?_⟩)))
 rw [Around.under_plainId F.plain_reversed_new _]; unfold Builtin.«reversed.__new__»
 refine wpAny_bind (wpAny_of_eq (newClass_reversed (.ref r)) ?_); dsimp only
 refine wpAny_bind (wpAny_of_eq (a := ()) (by kernel_rfl) (wpAny_bind (wpAny_of_eq (a := ()) (by kernel_rfl) ?_))); try dsimp only
 refine wpAny_bind (wpAny_specialOf ty F.slot_range_reversed.lookup ?_); dsimp only
 refine wpAny_bind (wpAny_of_eq (F.slot_range_reversed.bind _) ?_); dsimp only
 rw [if_neg nn]
 refine wpAny_bind (wpAny_rule (wpAny_bind (m := runValue (.call (.builtin "range.__reversed__") ⟨[.ref r], []⟩)) (show wpAny _ _ (call (.builtin "range.__reversed__") [.ref r]) _ _ _ from call_range_reversed hr hn ?_)))
 first | exact wpAny_pure h | exact wpAny_bind (wpAny_pure (wpAny_pure h))
theorem sub_ri_reversed : isSubtype (.type "range_iterator") (.type "reversed") = pure false := by rw [isSubtype_type]; kernel_rfl
theorem call_reversed_range {r : Addr} {n : Nat} {t u v : Tok} {Q : Value -> Shared -> Prop} (hr : IsRange s.heap r 0 n 1 t u v) (hn : n < 1048576)
   (h : Q (.ref s.heap.objs.size) { s with heap := s.heap.push (rrObj ((n : Int) - 1) n (-1)) }) : wpAny (model prog w) A (call (.type "reversed") [.ref r]) Q E s := by
 refine callType_other (U := "range_iterator") (Q₁ := fun obj s₁ => obj = .ref s.heap.objs.size /\ s₁ = { s with heap := s.heap.push (rrObj ((n : Int) - 1) n (-1)) }) (by decide +kernel) F.create_reversed ⟨_, _, F.mro_reversed⟩ F.made_reversed sub_ri_reversed (F.typeCall_reversed_1 _) (code_reversed_newR hr hn ⟨rfl, rfl⟩) ?_
 rintro obj s₁ ⟨rfl, rfl⟩
 exact ⟨⟨_, Heap.get?_push_size _ rfl, rfl⟩, h⟩
theorem call_ri_hint {I : Addr} {x left c : Int} {Q : Value -> Shared -> Prop} (hit : IsRangeIter s.heap I x left c) (h : Q (.int left s.toks) { s with toks := s.toks + 1 }) :
   wpAny (model prog w) A (call (.builtin "range_iterator.__length_hint__") [.ref I]) Q E s := by
 have hT : s.TypeIs (.ref I) "range_iterator" := ⟨_, hit, rfl⟩
 refine wpAny_call_entry F.slot_range_iterator_length_hint hT F.entry_range_iterator_length_hint ?_ (F.args_range_iterator_length_hint_1 _)
 unfold Builtin.«range_iterator.__length_hint__»
 refine wpAny_bind (wpAny_of_eq (a := Value.ref I) rfl ?_)
 refine wpAny_bind (wpAny_field hit rfl (x := rawInt left) rfl ?_)
 show wpAny _ _ (do ret (← mkInt left)) _ _ _
 exact wpAny_ret_mkInt h
structure SelfIt (P : Program) (w : World) (T : String) (I : Addr) (fp : List Addr) (n : Nat) (V : Nat -> Value -> Prop) (St : Nat -> Heap -> Prop) : Prop where
 ty : ∀ z : Shared, St 0 z.heap -> z.TypeIs (.ref I) T
 nl : (Value.type T == Value.type "list") = false
 nt : (Value.type T == Value.type "tuple") = false
 walk : ∀ B : Around, B.handled = none -> Walks P w B I fp [I] n V St
 hint : ∀ (B : Around) (F : Value -> Shared -> Prop) (z : Shared) (R : Bool -> Shared -> Prop), St 0 z.heap -> (∀ k, R false { z with toks := k }) -> wpAny (model P w) B (Builtin.List.listLengthHint (.ref I)) R F z
theorem SelfIt.list {P : Program} {T : String} {I : Addr} {fp : List Addr} {n : Nat} {V : Nat -> Value -> Prop} {St : Nat -> Heap -> Prop} (J : SelfIt P w T I fp n V St) {B : Around} {F' : Value -> Shared -> Prop} {z : Shared} {R : Value -> Shared -> Prop}
   (hB : B.handled = none) (st : St 0 z.heap) (mem : I ∈ fp) (old : ∀ b ∈ fp, b < z.heap.objs.size) (hn : n <= 1048576)
   (k : ∀ g tk xs c, (∀ b o, b ≠ I -> z.heap.get? b = some o -> g.get? b = some o) -> g.get? z.heap.objs.size = some (⟨.type "list", none, .seq xs c, #[]⟩ : Obj) -> ItemsOf V xs n -> R (.ref z.heap.objs.size) { z with heap := g, toks := tk }) :
   wpAny (model P w) B (call (.type "list") [.ref I]) R F' z := by
 have nI : ∀ b ∈ fp, z.heap.objs.size ≠ b := fun b hb => Nat.ne_of_gt (old b hb)
 have sI : Builtin.List.listSameRef (.ref z.heap.objs.size) (.ref I) = false := by unfold Builtin.List.listSameRef; simp [nI I mem]
 refine callType_codes (Q₁ := fun ob z1 => z1 = { z with heap := z.heap.push { cls := .type "list", data := .seq #[] } } /\ ob = .ref z.heap.objs.size) F.called_list (F.typeCall_list_1 _) F.entry_list_init (code_list_new _ ⟨rfl, rfl⟩) ?_
 rintro ob z1 ⟨rfl, rfl⟩
 have a0 := Heap.get?_push_size z.heap (o := ({ cls := .type "list", data := .seq #[] } : Obj)) rfl
 refine ⟨⟨_, a0, rfl⟩, F.args_list_init_2 _ _, ?_⟩
 show wpAny _ _ (Builtin.List.listItems (.ref _) >>= fun ys => Builtin.List.listUpdate (.ref _) (fun _ => #[]) >>= fun _ => letGo ys.toList.reverse >>= fun _ => Builtin.List.listExtendWith (.ref _) (.ref I) .none) _ _ _
 refine wpAny_bind (show wpAny _ _ (Builtin.List.listItems (.ref _)) _ _ _ from ?_)
 unfold Builtin.List.listItems
 refine wpAny_bind (wpAny_seqItems a0 rfl (wpAny_pure (wpAny_bind ?_)))
 refine wpAny_updateSeq a0 rfl (wpAny_bind (wpAny_letGo ?_))
 have a1 := Heap.get?_update_self (Obj.mapSeq (fun _ => (#[] : Array Value))) a0 rfl
 have keep1 : ∀ b o, z.heap.get? b = some o -> ((z.heap.push { cls := .type "list", data := .seq #[] }).update z.heap.objs.size (Obj.mapSeq (fun _ => (#[] : Array Value)))).get? b = some o := fun b o e =>
   (Heap.get?_update_other _ _ (Nat.ne_of_gt (Heap.lt_size e))).trans (Heap.get?_push_of_some _ e)
 generalize hg1 : (z.heap.push { cls := .type "list", data := .seq #[] }).update z.heap.objs.size (Obj.mapSeq (fun _ => (#[] : Array Value))) = g1 at a1 keep1
 have st1 : St 0 g1 := (J.walk B hB).frame 0 _ _ st fun b _ o e => keep1 b o e
 unfold Builtin.List.listExtendWith
 refine wpAny_bind (wpAny_typeOf (J.ty { z with heap := g1 } st1) ?_)
 simp only [sI, J.nl, J.nt, Bool.or_false, Bool.false_eq_true, if_false]
 refine wpAny_bind ((J.walk B.in1.in1 hB).self 0 { z with heap := g1 } _ _ st1 ?_)
 refine wpAny_bind (wpAny_holding (J.hint B.in1.in1 _ { z with heap := g1 } _ st1 fun tk => ?_))
 have run : ∀ (g : Heap) (c tk : Nat), St 0 g -> (∀ b o, z.heap.get? b = some o -> g.get? b = some o) -> g.get? z.heap.objs.size = some { cls := .type "list", data := .seq #[] c } →
     codeAny (model P w) B.in1 (.builtin "list.extend.loop" ⟨[.ref z.heap.objs.size, .ref I, .none], []⟩) (wants (fun r z2 => r = .none /\ R (.ref z.heap.objs.size) z2) F') { z with heap := g, toks := tk } := fun g c tk sg kg ag =>
   codeAny_extend_loopS (J.walk B.in1.in1 hB).toS (by rw [sizeLine_eq]; omega) _ (fun q => nI _ q rfl) .none n 0 _ #[] c rfl (Nat.zero_le _) sg ag (ItemsOf.nil _) fun z3 xs c3 mv a3 it => by
     rw [Moved.eq_with mv]
     refine ⟨rfl, k z3.heap z3.toks xs c3 (fun b o hb e => mv.heap b o (fun q => ?_) (kg b o e)) a3 it⟩
     rcases List.mem_cons.mp q with q | q
     . exact absurd q (Nat.ne_of_lt (Heap.lt_size e))
     . exact hb (List.mem_singleton.mp q)
 refine wpAny_ite_split (fun _ => ?_) (fun _ => wpAny_pure ⟨plainId_quiet F.plain_extend_loop _, run g1 _ tk st1 keep1 a1⟩)
 refine wpAny_bind (wpAny_rule (wpAny_bind (show wpAny _ _ (updateSeq z.heap.objs.size (·.push .none) >>= fun _ => updateSeq z.heap.objs.size (·.pop)) _ _ _ from wpAny_bind (wpAny_updateSeq a1 rfl ?_))))
 have a2 := Heap.get?_update_self (Obj.mapSeq (·.push Value.none)) a1 rfl
 refine wpAny_updateSeq (hz := by seq_fits) a2 rfl ?_
 have keep3 : ∀ b o, b ≠ z.heap.objs.size -> g1.get? b = some o -> ((g1.update z.heap.objs.size (Obj.mapSeq (·.push Value.none))).update z.heap.objs.size (Obj.mapSeq (·.pop))).get? b = some o := fun b o hb e =>
   (Heap.get?_update_other _ _ (Ne.symm hb)).trans ((Heap.get?_update_other _ _ (Ne.symm hb)).trans e)
 exact wpAny_pure ⟨plainId_quiet F.plain_extend_loop _, run _ _ tk ((J.walk B hB).frame 0 _ _ st1 fun b hb o e => keep3 b o (fun q => nI b hb q.symm) e) (fun b o e => keep3 b o (Nat.ne_of_lt (Heap.lt_size e)) (keep1 b o e)) (Heap.get?_update_self (Obj.mapSeq (·.pop)) a2 rfl)⟩
theorem selfRange {P : Program} {I : Addr} {x c : Int} {n : Nat} (hn : n <= 1048576) : SelfIt P w "range_iterator" I [I] n (fun i v => ∃ t, v = .int (x + i * c) t) (fun i h => IsRangeIter h I (x + (i : Nat) * c) ((n : Int) - (i : Nat)) c) where
 ty := fun _ st => ⟨_, st, rfl⟩
 nl := by decide
 nt := by decide
 walk := fun _ hB => Walks.range hB I x c n
 hint := fun B G z R st k => by
   have st' : IsRangeIter z.heap I x n c := by
     have e1 : x + ((0 : Nat) : Int) * c = x := by simp
     have e2 : (n : Int) - ((0 : Nat) : Int) = n := by simp
     rw [← e1, ← e2]
     exact st
   have ty : z.TypeIs (.ref I) "range_iterator" := ⟨_, st', rfl⟩
   have few : Builtin.List.listTooLong ((n : Int).toNat) = false := by unfold Builtin.List.listTooLong; rw [Int.toNat_natCast]; exact decide_eq_false (by rw [sizeLine_eq]; omega)
   unfold Builtin.List.listLengthHint
   refine wpAny_bind (wpAny_specialOf ty F.nolen_ra ?_)
   refine (show wpAny _ B (specialOf (.ref I) (Str.ofString "__length_hint__") >>= _) _ _ _ from wpAny_bind (wpAny_specialOf ty F.hint_ra ?_))
   (generalize hq : ("range_iterator.__length_hint__" : String) = q0; (fail_if_success (clear hq q0)); wp_delta; rw [show splitId q0 = some ("range_iterator", "__length_hint__") from by subst hq; decide +kernel]; subst hq)
   refine wpAny_bind (wpAny_isInstance (b := true) ty (by rw [isSubtype_type]; kernel_rfl) ?_)
   refine (show wpAny _ B (call (.builtin "range_iterator.__length_hint__") [.ref I] >>= _) _ _ _ from wpAny_bind (call_ri_hint st' (wpAny_bind (m := asInt? (.int (n : Int) _)) (wpAny_pure ?_))))
   dsimp only
   rw [if_neg (by rw [few]; decide)]
   exact wpAny_pure (k _)
end
end PySem
namespace L2
open PySem PySem.Spec PyProof.Rows
def downN (n : Nat) : List Nat := (List.range n).reverse
theorem vals_down {n : Nat} {acc : Array Value} (h : ItemsOf (fun i v => ∃ t, v = .int ((n : Int) - 1 + i * (-1)) t) acc n) : Vals ((downN n).map fun i => V.int (i : Nat)) acc.toList := by
 obtain ⟨hz, hv⟩ := h
 have key : ∀ (xs : List V) (us : List Value), xs.length = us.length -> (∀ (i : Nat) (x : V) (u : Value), xs[i]? = some x -> us[i]? = some u -> RelV x u) -> Vals xs us := by
   intro xs
   induction xs with
   | nil => intro us hl _; cases us with | nil => exact .nil | cons _ _ => cases hl
   | cons x xs ih =>
     intro us hl hp
     cases us with
     | nil => cases hl
     | cons u us => exact .cons (hp 0 x u rfl rfl) (ih us (by simpa using hl) fun i y w h1 h2 => hp (i + 1) y w (by simpa using h1) (by simpa using h2))
 refine key _ _ (by simp [downN, hz]) fun i x u h1 h2 => ?_
 have h2' : acc[i]? = some u := by simpa using h2
 obtain ⟨t, rfl⟩ := hv i u h2'
 have hi : i < n := by
   have := (Array.getElem?_eq_some_iff.mp h2').1
   omega
 rw [List.getElem?_map, downN, List.getElem?_reverse (by simpa using hi), List.length_range, List.getElem?_range (by omega)] at h1
 simp at h1
 subst h1
 refine ⟨t, ?_⟩
 congr 1
 omega
section
variable {X : Cx} {e : Expr} {te : TE} {p1 p2 p3 pos1 pos2 pos3 : Pos}
theorem spl1 {M : Model} {A : Around} {E : Value -> Shared -> Prop} {s : Shared} {env : Env} {e : Expr} {pos : Pos} {R : List Value -> Shared -> Prop} (hs : starEach [e] env = [(false, eval e env)]) (h : wpAny M A (eval e env) (fun v s1 => R [v] s1) E s) :
   wpAny M A (spliced (backTo pos (starEach [e] env))) R E s := by
 rw [hs]
 show wpAny _ _ (spliced ((false, eval e env) :: backTo pos [])) _ _ s
 exact Calls.spliced_cons (thn h fun u s1 h1 => Calls.spliced_nil h1)
def tLrr (te : TE) : TE := fun σ H Q => te σ H fun x H1 => ∃ n : Nat, x = .int n /\ n <= 1000 /\ ∀ l, H1 l = none -> Q (.ref l) (upd H1 l (.lst ((downN n).map fun i => V.int (i : Nat))))
theorem je_lrr (hc : X.calm = true) (g1 : Gl X "list") (m1 : X.mg "list" = none) (g2 : Gl X "reversed") (m2 : X.mg "reversed" = none) (g3 : Gl X "range") (m3 : X.mg "range" = none) (ha : JE X e te) (hs : starEach [e] X.env = [(false, eval e X.env)] := by rfl) (hs2 : starEach [.Call (.Name "range" p3) [e] [] pos3] X.env = [(false, eval (.Call (.Name "range" p3) [e] [] pos3) X.env)] := by rfl) (hs3 : starEach [.Call (.Name "reversed" p2) [.Call (.Name "range" p3) [e] [] pos3] [] pos2] X.env = [(false, eval (.Call (.Name "reversed" p2) [.Call (.Name "range" p3) [e] [] pos3] [] pos2) X.env)] := by rfl) : JE X (.Call (.Name "list" p1) [.Call (.Name "reversed" p2) [.Call (.Name "range" p3) [e] [] pos3] [] pos2] [] pos1) (tLrr te) := .of (by
 have ha := ha.to
 intro pins s σ H Q I h
 refine Call_ (ld_blt I g1 m1 boot_list (PyProof.Rows.callWith_type1 (spl1 hs3 ?_) (by rw [hs3]; rfl) rfl))
 refine Call_ (ld_blt I g2 m2 boot_reversed (PyProof.Rows.callWith_type1 (spl1 hs2 ?_) (by rw [hs2]; rfl) rfl))
 refine Call_ (ld_blt I g3 m3 boot_range (PyProof.Rows.callWith_type1 (spl1 hs (thn (ha pins s σ H _ I h) fun u s1 ⟨x, H1, I1, r1, q1⟩ => ?_)) (by rw [hs]; rfl) rfl))
 obtain ⟨n, rfl, hn, q⟩ := q1
 obtain ⟨t, rfl⟩ := r1
 refine call_range_1 ?_
 refine call_reversed_range (IsRange.new ..) (by omega) ?_
 refine (selfRange (x := (n : Int) - 1) (c := -1) (n := n) (by omega)).list (I1.ok.hd hc) (by
   have e1 : (n : Int) - 1 + ((0 : Nat) : Int) * (-1) = (n : Int) - 1 := by simp
   have e2 : (n : Int) - ((0 : Nat) : Int) = n := by simp
   rw [e1, e2]
   exact Heap.get?_push_size _ rfl) (by simp) (fun b hb => by rw [List.mem_singleton.mp hb, Heap.size_push (_ : Heap) (rrObj _ _ _)]; exact Nat.lt_succ_self _) (by omega) fun h' tk acc' c' kp e hi => ?_
 have kk : ∀ b o, s1.heap.get? b = some o -> h'.get? b = some o := fun b o eb => by
   refine kp b o (Nat.ne_of_lt ?_) (Heap.get?_push_of_some _ (Heap.get?_push_of_some _ eb))
   rw [Heap.size_push]
   exact Nat.lt_succ_of_lt (Heap.lt_size eb)
 have s1z : s1.heap.objs.size <= ((s1.heap.push ({ cls := .type "range", data := .fields #[.int 0 s1.toks, .int n t, .int 1 (s1.toks + 1)] } : Obj)).push (rrObj ((n : Int) - 1) n (-1))).objs.size := by
   rw [Heap.size_push, Heap.size_push]
   omega
 exact ⟨.ref _, _, I1.laid (t' := tk) (o := .lst ((downN n).map fun i => V.int (i : Nat))) kk s1z ⟨by simp only [List.length_map, downN, List.length_reverse, List.length_range]; exact Nat.le_of_lt (small1000 hn), acc'.toList, c', vals_down hi, by simpa using e⟩, rfl, q _ (I1.hok.fresh s1z)⟩)
end
end L2
set_option Elab.async false
set_option linter.all false
set_option maxRecDepth 100000
set_option maxHeartbeats 4000000
namespace PySem
namespace F
end F
end PySem
namespace L2
open PySem PySem.Spec PyProof.Rows
theorem paired_of : ∀ (xs : List V) (us : List Value), xs.length = us.length -> (∀ (i : Nat) (x : V) (u : Value), xs[i]? = some x -> us[i]? = some u -> RelV x u) -> Vals xs us := by
 intro xs
 induction xs with
 | nil => intro us hl _; cases us with | nil => exact .nil | cons _ _ => cases hl
 | cons x xs ih =>
   intro us hl hp
   cases us with
   | nil => cases hl
   | cons u us => exact .cons (hp 0 x u rfl rfl) (ih us (by simpa using hl) fun i y w h1 h2 => hp (i + 1) y w (by simpa using h1) (by simpa using h2))
section
variable {X : Cx} {e : Expr} {te : TE} {p1 p2 pos1 pos2 : Pos}
end
end L2
set_option Elab.async false
set_option linter.all false
set_option maxRecDepth 100000
set_option maxHeartbeats 4000000
namespace L2
open PySem PySem.Spec PyProof.Rows
section
variable {X : Cx} {pins : List (Addr × Obj)} {σ : St} {H : Hp} {s : Shared} {h' : Heap}
theorem Inv.turnLaid {L : List Addr} {T : Addr} {o : HO} {t' : Nat} (I : Inv X pins σ H s) (k : ∀ b u, b ∉ L -> s.heap.get? b = some u -> h'.get? b = some u) (hf : ∀ b ∈ L, FpOk X pins H b) (hp : s.heap.objs.size <= T)
   (new : ObjOk X.prog X.w (upd H T o) h' T o) : Inv X pins σ (upd H T o) { s with heap := h', toks := t' } := by
 have hn : H T = none := I.hok.fresh hp
 have up : ∀ b u, H b = some u -> upd H T o b = some u := fun b u e => by rw [qah (qam e hn)]; exact e
 have nL : ∀ b u, H b = some u -> b ∉ L := fun b u e z => by rw [(hf b z).1] at e; cases e
 refine I.step (g' := s.gens) (d' := s.drawn) (ch := L) (fun b hb => ?_) (fun b o _ _ hc e _ => k b o hc e) (fun b o _ _ hc e _ => ⟨o.slots, k b o hc e⟩) (fun b ob hc e n => ?_)
   (fun b o hc e => ⟨o, k b o hc e⟩) (fun b xs e => up b _ e) (fun b o u e => up b _ e) (fun b ps e => ⟨#[], by rw [up b _ e]; simp⟩) (fun m hm => ?_) (fun b u e => ?_) I.bare
 . obtain ⟨f0, f1, f2, f3, f4, f5⟩ := hf b hb
   exact ⟨f3, f1, f4, f5⟩
 . have : b ≠ T := Nat.ne_of_lt (Nat.lt_of_lt_of_le (Heap.lt_size e) hp)
   rw [qah this]
   exact n
 . obtain ⟨o, es, ep, ho, r⟩ := hm
   exact ⟨o, es, ep, k _ o (fun z => (hf _ z).2.1 rfl) ho, r⟩
 . by_cases hb : b = T
   . subst hb
     rw [qab] at e
     cases e
     exact new
   . rw [qah hb] at e
     refine (I.hok b u e).stay (fun c v hc q => k c v ?_ q) (fun c q => up c _ q) fun c xs q => up c _ q
     rcases hc with z | z
     . rw [z]; exact nL b u e
     . exact nL c _ z
theorem Inv.turnedL {L : List Addr} {t' : Nat} (I : Inv X pins σ H s) (k : ∀ b u, b ∉ L -> s.heap.get? b = some u -> h'.get? b = some u) (hf : ∀ b ∈ L, FpOk X pins H b) : Inv X pins σ H { s with heap := h', toks := t' } := by
 have nL : ∀ b u, H b = some u -> b ∉ L := fun b u e z => by rw [(hf b z).1] at e; cases e
 refine I.step (g' := s.gens) (d' := s.drawn) (ch := L) (fun b hb => ?_) (fun b o _ _ hc e _ => k b o hc e) (fun b o _ _ hc e _ => ⟨o.slots, k b o hc e⟩) (fun _ _ _ _ n => n)
   (fun b o hc e => ⟨o, k b o hc e⟩) (fun _ _ e => e) (fun _ _ _ e => e) (fun b ps e => ⟨#[], by rw [e]; simp⟩) (fun m hm => ?_) (fun b u e => ?_) I.bare
 . obtain ⟨f0, f1, f2, f3, f4, f5⟩ := hf b hb
   exact ⟨f3, f1, f4, f5⟩
 . obtain ⟨o, es, ep, ho, r⟩ := hm
   exact ⟨o, es, ep, k _ o (fun z => (hf _ z).2.1 rfl) ho, r⟩
 . refine (I.hok b u e).stay (fun c v hc q => k c v ?_ q) (fun _ q => q) fun _ _ q => q
   rcases hc with z | z
   . rw [z]; exact nL b u e
   . exact nL c _ z
end
section
variable {X : Cx} {elts : List Expr} {x1 : Nat} {tpos : Pos}
end
end L2
set_option Elab.async false
set_option linter.all false
set_option maxRecDepth 100000
set_option maxHeartbeats 4000000
namespace L2
open PySem PySem.Spec PyProof.Rows
section
variable {X : Cx}
theorem vals_refs : ∀ {cs : List Addr} {us : List Value}, Vals (cs.map V.ref) us -> us = cs.map Value.ref
 | [], _, .nil => rfl
 | c :: cs, u :: us, .cons r t => by
   obtain rfl : u = Value.ref c := r
   rw [List.map_cons, vals_refs t]
def rEqV (K : PySem.W.Frag) : R2 := fun x y H Q => ∃ d d', DV K H x d /\ DV K H y d' /\ PySem.SeqAt.shaped d = true /\ PySem.SeqAt.shaped d' = true /\ Q (.bl (PyData.eqv d d')) H
theorem op_eqV (hu : X.A.units + 64 < cLine) : OpR X (compareOp .Eq) (rEqV X.K) := by
 intro pins s σ H x y v u Q I rx ry h
 obtain ⟨d, d', h1, h2, hs, hs', q⟩ := h
 obtain ⟨as, ra⟩ := h1.reads I rx
 obtain ⟨bs, rb⟩ := h2.reads I ry
 exact eq_dataH ra rb hs hs' hu ⟨.bl _, H, I, rfl, q⟩
end
section
variable {X : Cx} {o e : Expr} {es : List Expr} {ta : TE} {t : TA} {m : Str} {C C' f f' : Addr} {fd fd' : FuncData} {ps ps' : List Str} {k k' : Nat} {sp sp' : Sp} {apos pos : Pos}
def tMethA (C C' : Addr) (m : Str) (sp sp' : Sp) (ta : TE) (t : TA) : TE := fun σ H Q => ta σ H fun x H1 => ∃ a dx fs, x = .ref a /\ fs.lookup m = none ∧
 ((H1 a = some (.ins C dx fs) /\ t σ H1 fun vs H2 => sp (x :: vs) H2 Q E0) ∨ (H1 a = some (.ins C' dx fs) /\ t σ H1 fun vs H2 => sp' (x :: vs) H2 Q E0))
theorem je_methA {pl : Sem Bool} (he : JE X o ta) (c : Cls X.K C) (hm : Meth X.K C m f) (F : FnOk X.prog X.w X.K X.mg X.base CX0 k f fd ps sp) (hr : Room k X.A) (hb : Binds X.K fd ps []) (c' : Cls X.K C') (hm' : Meth X.K C' m f') (F' : FnOk X.prog X.w X.K X.mg X.base CX0 k' f' fd' ps' sp') (hr' : Room k' X.A) (hb' : Binds X.K fd' ps' []) (ha : JA X (e :: es) t) (hst : starEach (e :: es) X.env = (false, eval e X.env) :: starEach es X.env := by rfl) (hpl : (backTo pos (starEach es X.env)).any (·.1) = false := by rfl) (ht : eval (.Call (.Attribute o m apos) (e :: es) [] pos) X.env = (eval o X.env >>= fun ov => standAt apos.atName >>= fun _ => holding [ov] (getMethod ov m pl) >>= fun r => callWith pos r.1 r.2 (backTo pos (starEach (e :: es) X.env)) (backToKw pos (keywordEach [] X.env))) := by rfl) : JE X (.Call (.Attribute o m apos) (e :: es) [] pos) (tMethA C C' m sp sp' ta t) := .of (by
 have he := he.to
 have ha := ha.to
 intro pins s σ H Q I h
 refine PySem.W.methodCall_KW (pl := pl) (thn (he pins s σ H _ I h) fun u s1 ⟨x, H1, I1, rx, a, dx, fs, ex, l, q⟩ => ?_) ht
 subst ex
 obtain rfl : u = Value.ref a := rx
 rcases q with ⟨ea, q⟩ | ⟨ea, q⟩
 . refine qci I1 ea c hm l (PySem.W.callWith_K (first := [.ref a]) (h₀ := X.base) I.ok.mod.kin hm.kp (thn (ha pos pins s1 σ H1 _ I1 q) fun us s2 ⟨vs, H2, I2, r, q2⟩ => ⟨I2.kIn, ?_⟩) hst hpl)
   exact run_fn (us := .ref a :: us) (vs := .ref a :: vs) F hr hb .nil pass0 I2 (.cons rfl r) (by simpa using q2)
 . refine qci I1 ea c' hm' l (PySem.W.callWith_K (first := [.ref a]) (h₀ := X.base) I.ok.mod.kin hm'.kp (thn (ha pos pins s1 σ H1 _ I1 q) fun us s2 ⟨vs, H2, I2, r, q2⟩ => ⟨I2.kIn, ?_⟩) hst hpl)
   exact run_fn (us := .ref a :: us) (vs := .ref a :: vs) F' hr' hb' .nil pass0 I2 (.cons rfl r) (by simpa using q2))
theorem je_methA0 {pl : Sem Bool} (he : JE X o ta) (c : Cls X.K C) (hm : Meth X.K C m f) (F : FnOk X.prog X.w X.K X.mg X.base CX0 k f fd ps sp) (hr : Room k X.A) (hb : Binds X.K fd ps []) (c' : Cls X.K C') (hm' : Meth X.K C' m f') (F' : FnOk X.prog X.w X.K X.mg X.base CX0 k' f' fd' ps' sp') (hr' : Room k' X.A) (hb' : Binds X.K fd' ps' []) (ht : eval (.Call (.Attribute o m apos) [] [] pos) X.env = (eval o X.env >>= fun ov => standAt apos.atName >>= fun _ => holding [ov] (getMethod ov m pl) >>= fun r => callWith pos r.1 r.2 (backTo pos (starEach [] X.env)) (backToKw pos (keywordEach [] X.env))) := by rfl) : JE X (.Call (.Attribute o m apos) [] [] pos) (tMethA C C' m sp sp' ta tNil) := .of (by
 have he := he.to
 intro pins s σ H Q I h
 refine PySem.W.methodCall_KW (pl := pl) (thn (he pins s σ H _ I h) fun u s1 ⟨x, H1, I1, rx, a, dx, fs, ex, l, q⟩ => ?_) ht
 subst ex
 obtain rfl : u = Value.ref a := rx
 rcases q with ⟨ea, q⟩ | ⟨ea, q⟩
 . exact qci I1 ea c hm l (PySem.W.callWith_K0 (first := [.ref a]) I1.kIn hm.kp (run_fn (us := [.ref a]) (vs := [.ref a]) F hr hb .nil pass0 I1 (.cons rfl .nil) q))
 . exact qci I1 ea c' hm' l (PySem.W.callWith_K0 (first := [.ref a]) I1.kIn hm'.kp (run_fn (us := [.ref a]) (vs := [.ref a]) F' hr' hb' .nil pass0 I1 (.cons rfl .nil) q)))
end
section
variable {X : Cx} {e : Expr} {es : List Expr} {te : TE} {t : TA}
theorem je_conv {t' : TE} (h : JE X e te) (k : ∀ σ H Q, t' σ H Q -> te σ H Q) : JE X e t' := .of (by
 have h := h.to
 exact fun pins s σ H Q I q => h pins s σ H Q I (k σ H Q q))
def tWk (te : TE) : TE := fun σ H Q => ∃ G : VK, te σ H G /\ ∀ x H1, G x H1 -> Q x H1
theorem je_wk (h : JE X e te) : JE X e (tWk te) := .of (by
 have h := h.to
 intro pins s σ H Q I ⟨G, g, k⟩
 exact thn (h pins s σ H G I g) fun v s1 ⟨x, H1, I1, r1, q1⟩ => ⟨x, H1, I1, r1, k x H1 q1⟩)
def aWk (t : TA) : TA := fun σ H Q => ∃ G : List V -> Hp -> Prop, t σ H G /\ ∀ vs H1, G vs H1 -> Q vs H1
theorem ja_wk (h : JA X es t) : JA X es (aWk t) := .of (by
 have h := h.to
 intro pos pins s σ H Q I ⟨G, g, k⟩
 exact thn (h pos pins s σ H G I g) fun us s1 ⟨vs, H1, I1, r1, q1⟩ => ⟨vs, H1, I1, r1, k vs H1 q1⟩)
end
end L2
set_option Elab.async false
set_option linter.all false
set_option maxRecDepth 100000
set_option maxHeartbeats 4000000
namespace L2
open PySem PySem.Spec PySem.W PyProof.Rows
theorem mr_le : ∀ (f n r : Nat), r <= 1 -> minRun' f n r <= n + r
 | 0, n, r, _ => Nat.le_refl _
 | f + 1, n, r, hr => by
   rw [minRun'_succ]
   split
   . exact Nat.le_refl _
   . have h1 : max r (n % 2) <= 1 := Nat.max_le.mpr ⟨hr, by omega⟩
     have := mr_le f (n / 2) (max r (n % 2)) h1
     omega
section
variable {P : Program} {w : World} {B : Around} {F : Value -> Shared -> Prop} {κ : SortKind} {it : Array Keyed} {z : Shared}
theorem rise_asc {n : Nat} {R : Nat -> Shared -> Prop} (hc : ∀ i, 1 <= i -> i < n -> ∀ C : Bool -> Shared -> Prop, C false z -> kas_cmp P w B κ it i (i - 1) C z) (hR : R n z) :
   ∀ (f a : Nat), 1 <= a -> a + f = n -> (kas_asc (List.toArray (List.range n)) f a).kasWp (kas_cmp P w B κ it) R z
 | 0, a, _, e => by
   have e' : a = n := by omega
   subst e'
   exact hR
 | f + 1, a, h1, e => by
   have g : ∀ i, i < n -> (List.toArray (List.range n)).getD i 0 = i := fun i hi => by simp [Array.getD, hi]
   show kas_cmp P w B κ it ((List.toArray (List.range n)).getD a 0) ((List.toArray (List.range n)).getD (a - 1) 0) _ z
   rw [g a (by omega), g (a - 1) (by omega)]
   refine hc a h1 (by omega) _ ?_
   show KasT.kasWp _ (if false = true then _ else _) R z
   rw [if_neg Bool.false_ne_true]
   exact rise_asc hc hR f (a + 1) (by omega) (by omega)
theorem rise_runs {n : Nat} {Q : Unit -> SortSt -> Shared -> Prop} (h2 : 2 <= n) (hc : ∀ i, 1 <= i -> i < n -> ∀ C : Bool -> Shared -> Prop, C false z -> kas_cmp P w B κ it i (i - 1) C z)
   (hQ : ∀ st, arrOf st = (List.toArray (List.range n)).map (kas_item it) -> failedOf st = none -> Q () st z) : kasC (model P w) B F sortRuns' Q (kas_st κ it (List.toArray (List.range n))) z := by
 obtain ⟨r, rfl⟩ : ∃ r, n = r + 2 := ⟨n - 2, by omega⟩
 have sz : (List.toArray (List.range (r + 2))).size = r + 2 := by simp
 have sa : (arrOf (kas_st κ it (List.toArray (List.range (r + 2))))).size = r + 2 := (Array.size_map ..).trans sz
 have le := mr_le (r + 2) (r + 2) 0 (by decide)
 rw [sortRuns'_eq]
 refine kasC_bind (kasC_get ?_)
 dsimp only
 rw [sa]
 generalize minRun' (r + 2) (r + 2) 0 = M at le
 refine kasC_bind (kasC_range (show kasC _ _ _ (forIn (0 :: 1 :: List.range' 2 r) _ _) _ _ _ from kasC_cons ?_))
 dsimp only
 rw [if_neg (by omega)]
 simp only [Nat.sub_zero, Nat.zero_add]
 refine kasC_bind (kas_count_ (G := fun q z' => q = (r + 2, List.toArray (List.range (r + 2))) /\ z' = z) (by omega) (by rw [sz]; exact Nat.le_refl _) (fun m p' z' _ _ _ hg => ?_) ?_)
 . obtain ⟨e, rfl⟩ := hg
   cases e
   dsimp only
   rw [if_neg (by omega)]
   refine kasC_bind (kasC_get ?_)
   rw [show (pendingOf (kas_st κ it (List.toArray (List.range (r + 2))))).back? = none from rfl]
   dsimp only
   refine kasC_bind (kasC_modify (kasC_pure (show kasC _ _ _ (forIn (1 :: List.range' 2 r) _ _) _ _ _ from kasC_cons ?_)))
   dsimp only
   rw [if_pos (Nat.le_refl _)]
   refine kasC_pure ?_
   dsimp only
   refine kasC_bind (kasC_range (show kasC _ _ _ (forIn (0 :: 1 :: List.range' 2 r) _ _) _ _ _ from kasC_cons (kasC_bind (kasC_get ?_))))
   rw [if_pos (show (pendingOf (setPending (kas_st κ it (List.toArray (List.range (r + 2)))) ((pendingOf (kas_st κ it (List.toArray (List.range (r + 2))))).push (0, r + 2, 0)))).size <= 1 from Nat.le_refl 1)]
   refine kasC_pure ?_
   dsimp only
   exact kasC_pure (hQ _ rfl rfl)
 . unfold kas_count
   rw [KasT.kasWp_bind]
   refine rise_asc hc ?_ _ 1 (Nat.le_refl 1) (by omega)
   rw [if_pos (beq_self_eq_true _)]
   exact ⟨rfl, rfl⟩
end
def PairAt (h : Heap) (v : Value) (k : Int × Int) : Prop := ∃ p o n t u, v = .ref p /\ h.get? p = some o /\ o.cls = .type "tuple" /\ o.data = .seq #[.int k.1 t, .int k.2 u] n
def lexLt2 (a b : Int × Int) : Prop := a.1 < b.1 ∨ (a.1 = b.1 /\ a.2 < b.2)
section
variable {P : Program} {w : World} {B : Around} {F : Value -> Shared -> Prop} {z : Shared}
theorem pair_not_lt {v u : Value} {a b : Int × Int} (hv : PairAt z.heap v b) (hu : PairAt z.heap u a) (hlt : lexLt2 a b) {C : Bool -> Shared -> Prop} (hC : C false z) : wpAny (model P w) B (keyLt' (tuples' true) v u) C (fun _ _ => False) z := by
 obtain ⟨p, o, n, t1, t2, rfl, h1, _, d1⟩ := hv
 obtain ⟨p', o', n', t1', t2', rfl, h1', _, d1'⟩ := hu
 refine kat_lt h1 d1 h1' d1' ?_
 show KatLex P w B true _ C [(.int b.1 t1, .int a.1 t1'), (.int b.2 t2, .int a.2 t2')] 0 z
 refine kat_cons (SeqAt.EqAt.int_int b.1 t1 a.1 t1' P w _ _ ?_)
 rcases hlt with h | ⟨h, h'⟩
 . have e : (b.1 == a.1) = false := by
     rw [beq_eq_false_iff_ne]
     omega
   rw [e]
   refine kat_no (show wpAny _ _ (oneLt' true _ _) _ _ _ from oneLt_int ?_)
   rw [decide_eq_false (by omega)]
   exact hC
 . have e : (b.1 == a.1) = true := by rw [h]; exact beq_self_eq_true _
   rw [e]
   refine kat_yes (kat_cons (SeqAt.EqAt.int_int b.2 t2 a.2 t2' P w _ _ ?_))
   have e2 : (b.2 == a.2) = false := by
     rw [beq_eq_false_iff_ne]
     omega
   rw [e2]
   refine kat_no (show wpAny _ _ (oneLt' false _ _) _ _ _ from kat_one _ _ (lt_int ?_))
   show C (decide (b.2 < a.2)) z
   rw [decide_eq_false (by omega)]
   exact hC
theorem PairAt.keep {h h' : Heap} {v : Value} {k : Int × Int} (x : PairAt h v k) (kp : ∀ b o, h.get? b = some o -> o.cls = .type "tuple" -> h'.get? b = some o) : PairAt h' v k := by
 obtain ⟨p, o, n, t, u, e, h1, c, d⟩ := x
 exact ⟨p, o, n, t, u, e, kp p o h1 c, c, d⟩
theorem pairs_snd (vs : List Value) : (pairsOf vs).map (·.2) = vs.toArray := by
 apply Array.ext'
 rw [Array.toList_map, pairsOf_toList, List.map_snd_zip (Nat.le_refl _)]
theorem tups_of {h : Heap} : ∀ (vs : List Value) (ks : List (Int × Int)), vs.length = ks.length -> (∀ (i : Nat) (v : Value) (k : Int × Int), vs[i]? = some v -> ks[i]? = some k -> PairAt h v k) -> ∃ fs, KatTups h vs fs /\ fs.length = vs.length /\ ∀ v ∈ fs, ∃ i t, v = Value.int i t
 | [], _, _, _ => ⟨[], .nil, rfl, fun v hv => (nomatch hv)⟩
 | v :: vs, [], hl, _ => by cases hl
 | v :: vs, k :: ks, hl, hv => by
   obtain ⟨fs, tf, lf, hf⟩ := tups_of vs ks (Nat.succ.inj hl) fun i u q e1 e2 => hv (i + 1) u q (by simpa using e1) (by simpa using e2)
   obtain ⟨p, o, n, t, u, rfl, h1, c, d⟩ := hv 0 v k rfl rfl
   refine ⟨.int k.1 t :: fs, .cons h1 c d rfl tf, by simp [lf], fun x hx => ?_⟩
   rcases List.mem_cons.mp hx with e | hx
   . exact ⟨_, _, e⟩
   . exact hf x hx
theorem sort_rise {a : Addr} {vs : List Value} {ks : List (Int × Int)} {n : Nat} {R : PySem.Fin -> Shared -> Prop} (ho : z.heap.get? a = some (seqObj "list" vs.toArray n)) (hl : vs.length = ks.length) (hv : ∀ (i : Nat) (v : Value) (k : Int × Int), vs[i]? = some v -> ks[i]? = some k -> PairAt z.heap v k)
   (hr : ∀ (i : Nat) (k k' : Int × Int), ks[i]? = some k -> ks[i + 1]? = some k' -> lexLt2 k k') (hz : vs.length <= 100000)
   (k : R (.done (.ret .none)) { z with heap := sortedHeap z.heap a vs vs.toArray }) : wpAny (model P w) B (Builtin.«list.sort» ⟨[.ref a], []⟩) R F z := by
 have na : ∀ b o, z.heap.get? b = some o -> o.cls = .type "tuple" -> b ≠ a := fun b o e c q => by
   rw [q, ho] at e
   cases e
   exact absurd c (show ¬ Value.type "list" = Value.type "tuple" by decide)
 rw [list_sort_plain]
 refine wpAny_bind (listItems_at ho rfl (wpAny_bind (listUpdate_at ho rfl ?_)))
 obtain ⟨c1, o1⟩ : ∃ c, (z.heap.update a (Obj.mapSeq fun _ => #[])).get? a = some (seqObj "list" #[] c) := ⟨_, get?_update_seq ho (fun _ => #[])⟩
 refine wpAny_bind (seqEpoch_at o1 rfl (wpAny_bind (wpAny_newTuple (wpAny_bind (wpAny_newList (wpAny_holding ?_))))))
 have lt := Heap.lt_size ho
 have o2 : (((z.heap.update a (Obj.mapSeq fun _ => #[])).push (seqObj "tuple" vs.toArray 0)).push (seqObj "list" #[] 0)).get? a = some (seqObj "list" #[] c1) := Heap.get?_push_of_some _ (Heap.get?_push_of_some _ o1)
 have kp : ∀ b o, z.heap.get? b = some o -> o.cls = .type "tuple" -> (((z.heap.update a (Obj.mapSeq fun _ => #[])).push (seqObj "tuple" vs.toArray 0)).push (seqObj "list" #[] 0)).get? b = some o := fun b o e c =>
   Heap.get?_push_of_some _ (Heap.get?_push_of_some _ ((Heap.get?_update_other _ _ (Ne.symm (na b o e c))).trans e))
 show wpAny (model P w) B _ R F { z with heap := ((z.heap.update a (Obj.mapSeq fun _ => #[])).push (seqObj "tuple" vs.toArray 0)).push (seqObj "list" #[] 0) }
 dsimp only
 have sv : vs.toArray.size = vs.length := by simp
 have ends : ∀ st : SortSt, (arrOf st).map (·.2) = vs.toArray -> failedOf st = none -> wpAny (model P w) B (do
     let touched := (← seqEpoch a) != c1
     Builtin.List.listUpdate (.ref a) fun _ => (arrOf st).map (·.2)
     if let some e := failedOf st then rule "list.sort.comparison-raised"; throw e
     if touched then rule "list.sort.modified"; raiseError "ValueError" "list modified during sort"
     ret .none) R F { z with heap := ((z.heap.update a (Obj.mapSeq fun _ => #[])).push (seqObj "tuple" vs.toArray 0)).push (seqObj "list" #[] 0) } := fun st e f => by
   refine wpAny_bind (seqEpoch_at o2 rfl ?_)
   rw [e, f]
   refine wpAny_bind (listUpdate_at o2 rfl ?_ (hsz2 := by rw [sv, sizeLine_eq]; omega))
   simp only [bne_self_eq_false, Bool.false_eq_true, if_false]
   exact wpAny_pure k
 by_cases h2 : vs.toArray.size < 2
 . rw [if_pos h2, if_pos h2]
   refine wpAny_bind (wpAny_pure ?_)
   rw [StateT.run_pure]
   refine wpAny_bind (wpAny_pure ?_)
   exact ends (SortSt.mk' general' (vs.toArray.zip vs.toArray) #[] 7 none) (pairs_snd vs) rfl
 . rw [if_neg h2, if_neg h2]
   have l2 : 2 <= vs.length := by omega
   have hv' : ∀ (i : Nat) (v : Value) (q : Int × Int), vs[i]? = some v -> ks[i]? = some q -> PairAt (((z.heap.update a (Obj.mapSeq fun _ => #[])).push (seqObj "tuple" vs.toArray 0)).push (seqObj "list" #[] 0)) v q := fun i v q e1 e2 => (hv i v q e1 e2).keep kp
   obtain ⟨fs, tf, lf, hf⟩ := tups_of vs ks hl hv'
   refine wpAny_bind (kat_kind (T := .type "int") tf (by omega) (fun v q => ?_) rfl ?_)
   . obtain ⟨i, t, rfl⟩ := hf v q
     exact Looks.of_pure rfl
   . have e : vs.toArray.zip vs.toArray = (List.toArray (List.range vs.length)).map (kas_item (pairsOf vs)) := by
       have := kas_range (pairsOf vs)
       rw [pairsOf_size] at this
       exact this.symm
     rw [e]
     have run : kasC (model P w) B F sortRuns' (fun _ st z' => z' = { z with heap := ((z.heap.update a (Obj.mapSeq fun _ => #[])).push (seqObj "tuple" vs.toArray 0)).push (seqObj "list" #[] 0) } /\ (arrOf st).map (·.2) = vs.toArray /\ failedOf st = none)
         (kas_st (tuples' true) (pairsOf vs) (List.toArray (List.range vs.length))) { z with heap := ((z.heap.update a (Obj.mapSeq fun _ => #[])).push (seqObj "tuple" vs.toArray 0)).push (seqObj "list" #[] 0) } := by
       refine rise_runs l2 (fun i i1 i2 C hC => ?_) fun st e1 e2 => ⟨rfl, by rw [e1, ← e]; exact pairs_snd vs, e2⟩
       unfold kas_cmp
       rw [kas_item_eq, kas_item_eq]
       have g : ∀ j, j < vs.length -> vs[j]? = some (vs.getD j Value.none) := fun j hj => by simp [hj]
       have gk : ∀ j, j < vs.length -> ∃ q, ks[j]? = some q := fun j hj => ⟨_, List.getElem?_eq_getElem (by omega)⟩
       obtain ⟨q1, eq1⟩ := gk i i2
       obtain ⟨q0, eq0⟩ := gk (i - 1) (by omega)
       have eq1' : ks[i - 1 + 1]? = some q1 := by rw [show i - 1 + 1 = i by omega]; exact eq1
       exact pair_not_lt (hv' i _ q1 (g i i2) eq1) (hv' (i - 1) _ q0 (g (i - 1) (by omega)) eq0) (hr (i - 1) q0 q1 eq0 eq1') hC
     refine wpAny_bind (wpAny_mono run (fun r z' h3 => ?_) fun _ _ x => x)
     obtain ⟨⟨⟩, st⟩ := r
     obtain ⟨rfl, e1, e2⟩ := h3
     exact ends st e1 e2
end
end L2
set_option Elab.async false
set_option linter.all false
set_option maxRecDepth 100000
set_option maxHeartbeats 4000000
namespace PySem
def RawD (h : Heap) (d : Addr) (es : Array DictEntry) (ep : Nat) : Prop := ∃ o, h.get? d = some o /\ o.ExactDict /\ o.data = .dict es ep
theorem RawD.keep {h h' : Heap} {d : Addr} {es : Array DictEntry} {ep : Nat} (x : RawD h d es ep) (k : ∀ o, h.get? d = some o -> h'.get? d = some o) : RawD h' d es ep := let ⟨o, e, r⟩ := x; ⟨o, k o e, r⟩
section
variable {P : Program} {w : World} {B : Around} {F' : Value -> Shared -> Prop} {z : Shared} {d I : Addr} {es : Array DictEntry} {ep i : Nat}
theorem RawD.ty (x : RawD z.heap d es ep) : z.TypeIs (.ref d) "dict" := let ⟨o, e, c, _⟩ := x; ⟨o, e, c.1⟩
theorem raw_iter {R : Value -> Shared -> Prop} (hd : (d == sysModules) = false) (x : RawD z.heap d es ep)
   (k : R (.ref z.heap.objs.size) { z with heap := z.heap.push { cls := .type "dict_keyiterator", data := .fields #[.ref d, .int 0 0, .int es.size 0, .int ep 0] } }) : wpAny (model P w) B (pyIter (.ref d)) R F' z := by
 have ty := x.ty
 obtain ⟨o, ho, _, dat⟩ := x
 refine wpAny_pyIter_slot ty F.slot_dict_iter (wpAny_call_entry F.slot_dict_iter ty F.entry_dict_iter ?_ (F.args_dict_iter_1 _))
 unfold Builtin.«dict.__iter__»
 refine wpAny_bind (show wpAny _ _ (Builtin.Dict.dictSlotNone _ _) _ _ _ from ?_)
 unfold Builtin.Dict.dictSlotNone
 refine wpAny_bind (wpAny_notOrdered_dict ty (show wpAny _ _ (pure (Value.ref d)) _ _ z from wpAny_pure ?_))
 refine (show wpAny _ _ (Builtin.Dict.showsAll d >>= _) _ _ z from ?_)
 unfold Builtin.Dict.showsAll
 rw [if_neg (by rw [hd]; exact Bool.false_ne_true)]
 refine wpAny_bind (wpAny_pure (wpAny_bind (wpAny_dictEntries ho dat (wpAny_bind (wpAny_dictEpoch ho dat ?_)))))
 exact wpAny_bind (wpAny_newObj_type (wpAny_pure ⟨_, rfl, "dict_keyiterator", _, ⟨_, Heap.get?_push_size _ rfl, rfl⟩, F.slot_dict_keyiterator_next.lookup, by simpa [rawInt] using k⟩))
theorem raw_next {R : Option Value -> Shared -> Prop} (hit : z.heap.IsKeyIter I d i es.size ep) (x : RawD z.heap d es ep) (hi : i < es.size)
   (k : ∀ h', h'.IsKeyIter I d (i + 1) es.size ep -> Heap.SameBut I z.heap h' -> R (some es[i].key) { z with heap := h' }) : wpAny (model P w) B (pyNext (.ref I)) R F' z := by
 obtain ⟨o, ho, hc, hd⟩ := id hit
 obtain ⟨od, hod, _, dat⟩ := x
 have ty := hit.typeIs
 unfold pyNext
 refine wpAny_bind (wpAny_attempt (wpAny_callSpecial?_slot (name := Str.ofString "__next__") ty F.slot_dict_keyiterator_next (wpAny_call_entry F.slot_dict_keyiterator_next ty F.entry_dict_keyiterator_next ?_ (F.args_dict_keyiterator_next_1 _))))
 refine wpAny_bind (wpAny_pure (wpAny_bind (wpAny_bind (wpAny_bind ?_))))
 first | refine wpAny_typeNameOfWhole_keyiter ty (wpAny_pure (wpAny_bind (wpAny_fieldsOf ho hd ?_))) | refine wpAny_typeNameOf_keyiter ty (wpAny_pure (wpAny_bind (wpAny_fieldsOf ho hd ?_)))
 have own : Builtin.Dict_items.ownsTuple "dict_keyiterator" = false := by decide
 simp only [own, Bool.false_eq_true, if_false]
 show wpAny _ _ (if (Value.ref d == Value.none) = true then _ else _) _ _ z
 rw [if_neg (show ¬ ((Value.ref d == Value.none) = true) from Bool.false_ne_true)]
 refine wpAny_bind (wpAny_pure (wpAny_bind (wpAny_dictEntries hod dat ?_)))
 rw [if_neg (by simp)]
 refine wpAny_bind (wpAny_pure (wpAny_bind (wpAny_dictEpoch hod dat ?_)))
 rw [if_neg (by simp)]
 refine wpAny_pure ?_
 simp only [show ¬ ((i : Int) < 0) from by omega, if_false, Int.toNat_natCast, Array.getElem?_eq_getElem hi]
 refine wpAny_bind (wpAny_bind ?_)
 first | refine wpAny_typeNameOfWhole_keyiter ty (wpAny_pure (wpAny_bind (wpAny_isOneOf_keyiter ty ?_))) | refine wpAny_typeNameOf_keyiter ty (wpAny_pure (wpAny_bind (wpAny_isOneOf_keyiter ty ?_)))
 refine (show wpAny _ _ (setField (.ref I) 1 (rawInt ((i : Int) + 1)) >>= _) _ _ z from wpAny_bind (wpAny_setField ho hd (by simp) ?_))
 have hit' : (z.heap.update I (Obj.mapFields (·.setIfInBounds 1 (rawInt ((i : Int) + 1))))).IsKeyIter I d (i + 1) es.size ep :=
   ⟨_, Heap.get?_update_self _ ho (Obj.isFreed_of_fields (Obj.data_mapFields hd _)), (Obj.cls_mapFields ..).trans hc, by rw [Obj.data_mapFields hd]; simp [rawInt]⟩
 refine wpAny_bind (wpAny_holding (wpAny_bind (wpAny_isOneOf_keyiter (s := { z with heap := z.heap.update I (Obj.mapFields (·.setIfInBounds 1 (rawInt ((i : Int) + 1)))) }) hit'.typeIs ?_)))
 refine (show wpAny _ _ (pure es[i].key) _ _ _ from wpAny_pure (wpAny_pure ⟨_, rfl, wpAny_pure (k _ hit' (Heap.SameBut.update ..))⟩))
theorem raw_end {R : Option Value -> Shared -> Prop} (hB : B.handled = none) (hit : z.heap.IsKeyIter I d i es.size ep) (x : RawD z.heap d es ep) (hi : es.size <= i)
   (k : ∀ h', Heap.ExtBut I z.heap h' -> R none { z with heap := h' }) : wpAny (model P w) B (pyNext (.ref I)) R F' z := by
 obtain ⟨o, ho, hc, hd⟩ := id hit
 obtain ⟨od, hod, _, dat⟩ := x
 have ty := hit.typeIs
 unfold pyNext
 refine wpAny_bind (wpAny_attempt (wpAny_callSpecial?_slot (name := Str.ofString "__next__") ty F.slot_dict_keyiterator_next (wpAny_call_entry F.slot_dict_keyiterator_next ty F.entry_dict_keyiterator_next ?_ (F.args_dict_keyiterator_next_1 _))))
 refine wpAny_bind (wpAny_pure (wpAny_bind (wpAny_bind (wpAny_bind ?_))))
 first | refine wpAny_typeNameOfWhole_keyiter ty (wpAny_pure (wpAny_bind (wpAny_fieldsOf ho hd ?_))) | refine wpAny_typeNameOf_keyiter ty (wpAny_pure (wpAny_bind (wpAny_fieldsOf ho hd ?_)))
 have own : Builtin.Dict_items.ownsTuple "dict_keyiterator" = false := by decide
 simp only [own, Bool.false_eq_true, if_false]
 show wpAny _ _ (if (Value.ref d == Value.none) = true then _ else _) _ _ z
 rw [if_neg (show ¬ ((Value.ref d == Value.none) = true) from Bool.false_ne_true)]
 refine wpAny_bind (wpAny_pure (wpAny_bind (wpAny_dictEntries hod dat ?_)))
 rw [if_neg (by simp)]
 refine wpAny_bind (wpAny_pure (wpAny_bind (wpAny_dictEpoch hod dat ?_)))
 rw [if_neg (by simp)]
 refine wpAny_pure ?_
 simp only [show ¬ ((i : Int) < 0) from by omega, if_false, Int.toNat_natCast, Array.getElem?_eq_none hi]
 refine wpAny_bind (wpAny_bind ?_)
 first | refine wpAny_typeNameOfWhole_keyiter ty (wpAny_pure ?_) | refine wpAny_typeNameOf_keyiter ty (wpAny_pure ?_)
 refine (show wpAny _ _ (setField (.ref I) 0 .none >>= _) _ _ z from wpAny_bind (wpAny_setField ho hd (by simp) ?_))
 refine (show wpAny _ _ (newExc (.type "StopIteration") [] >>= _) _ _ _ from wpAny_bind ?_)
 simp only [newExc, newTuple]
 refine wpAny_bind (wpAny_newObj_type (wpAny_bind (m := firstArgMember _ _) (wpAny_of_eq (a := Value.none) (by first | rfl | (simp only [firstArgMember]; rfl)) (wpAny_newObj_type ?_ (by size_fits)))) (by size_fits))
 simp only [raiseNew]
 refine wpAny_bind (wpAny_handled ?_)
 rw [show B.in1.handled = none from hB]
 refine wpAny_bind (wpAny_pure (wpAny_throw ?_))
 refine wpAny_bind (wpAny_isInstance (T := "StopIteration") (b := true) ⟨_, Heap.get?_push_size _ rfl, rfl⟩ isSubtype_stop ?_)
 exact wpAny_pure (k _ ((((Heap.SameBut.update ..).extBut).push _).push _))
end
end PySem
namespace PySem
open PySem.W
section
variable {P : Program} {w : World} {d : Addr} {es : Array DictEntry} {ep : Nat}
theorem raw_walks {B : Around} (hB : B.handled = none) (I : Addr) (hne : d ≠ I) : Walks P w B I [I, d] [I] es.size (fun i v => ∃ h : i < es.size, v = es[i].key) (fun i h => h.IsKeyIter I d i es.size ep /\ RawD h d es ep) where
 sub := fun b hb => by simp at hb; simp [hb]
 frame := fun _ _ _ st k => ⟨st.1.at fun o e => k I (by simp) o e, st.2.keep fun o e => k d (by simp) o e⟩
 item := fun i z R G hi st q => raw_next st.1 st.2 hi fun h' it' sb => q _ h' z.toks ⟨hi, rfl⟩ ⟨it', st.2.keep fun o e => sb.extBut d o hne e⟩ fun b o hb e => sb.extBut b o (fun x => hb (by simp [x])) e
 done := fun z R G st q => raw_end hB st.1 st.2 (Nat.le_refl _) fun h' eb => q h' z.toks fun b o hb e => eb b o (fun x => hb (by simp [x])) e
 self := fun _ _ _ _ st q => wpAny_pyIter_keyiter st.1 q
theorem raw_src (hd : (d == sysModules) = false) : KdlSrc P w "dict" d d es.size (fun i v => ∃ h : i < es.size, v = es[i].key) (fun h => RawD h d es ep) where
 type := fun z x => x.ty
 there := fun h x => let ⟨o, e, _⟩ := x; ⟨Heap.lt_size e, Heap.lt_size e⟩
 keep := fun h h' x k => x.keep fun o e => k d (.inl rfl) o e
 notList := by decide
 notTuple := by decide
 hint := fun _ _ _ _ x q => kdl_hint_dict x.ty q
 iter := fun A z hh x => ⟨_, _, fun E Q q => raw_iter hd x q, raw_walks hh _ (let ⟨o, e, _⟩ := x; Nat.ne_of_lt (Heap.lt_size e)), ⟨⟨_, Heap.get?_push_size _ rfl, rfl, rfl⟩, x.keep fun o e => Heap.get?_push_of_some _ e⟩⟩
end
end PySem
namespace L2
open PySem PySem.Spec PySem.W PyProof.Rows
theorem paired_get {α β : Type} {G : α -> β -> Prop} : ∀ {l : List α} {m : List β}, Paired G l m -> ∀ {i : Nat} {a : α}, l[i]? = some a -> ∃ b, m[i]? = some b /\ G a b
 | _, _, .nil, i, a, e => by simp at e
 | _, _, .cons r t, 0, a, e => by cases e; exact ⟨_, rfl, r⟩
 | _, _, .cons r t, i + 1, a, e => by
   obtain ⟨b, eb, g⟩ := paired_get t (by simpa using e)
   exact ⟨b, by simpa using eb, g⟩
section
variable {X : Cx}
def pairK (k : Int × Int) : List Key := [Sum.inl k.1, Sum.inl k.2]
def rSortD : List V -> Hp -> VK -> Prop := fun xs H Q => ∃ (a : Addr) (kvs : List (List Key × V)) (ks : List (Int × Int)), xs = [.ref a] /\ H a = some (.dT kvs) /\ kvs.map (·.1) = ks.map pairK /\ (∀ (i : Nat) (k k' : Int × Int), ks[i]? = some k -> ks[i + 1]? = some k' -> lexLt2 k k') /\ kvs.length <= 1000 ∧
 ∀ (l : Addr) (ps : List Addr), H l = none -> ps.length = ks.length -> (∀ (i : Nat) (p : Addr) (k : Int × Int), ps[i]? = some p -> ks[i]? = some k -> H p = some (.tup [.int k.1, .int k.2])) -> Q (.ref l) (upd H l (.lst (ps.map V.ref)))
theorem vals_ref : ∀ (ps : List Addr), Vals (ps.map V.ref) (ps.map Value.ref)
 | [] => .nil
 | p :: ps => .cons rfl (vals_ref ps)
theorem call_sortD (hc : X.calm = true) : CallR X (.builtin "sorted") rSortD := by
 intro pins s σ H xs us Q I r h
 obtain ⟨a, kvs, ks, rfl, ea, eks, hr, hz, q⟩ := h
 obtain ⟨u, rfl, ru⟩ := vals1 r
 cases ru
 obtain ⟨_, hsys, ys, pr, o, es, ep, eo, ex, dat, ents, _⟩ := (show ObjOk X.prog X.w H s.heap a (.dT kvs) from I.hok a _ ea)
 have ly : kvs.length = ys.length := Paired.length pr
 have lk : kvs.length = ks.length := by simpa using congrArg List.length eks
 have se : es.size = ys.length := by rw [← Array.length_toList, ents, List.length_map]
 have key : ∀ i (hi : i < es.size), es[i].key = .ref ((ys.map (·.2.1)).getD i 0) := fun i hi => by
   have e1 : es.toList[i]? = some es[i] := by simp [hi]
   have hy : i < ys.length := by omega
   rw [ents, List.getElem?_map, List.getElem?_eq_getElem hy] at e1
   have e2 := (Option.some.inj e1).symm
   rw [e2]
   show Value.ref ys[i].2.1 = _
   simp [hy]
 have tup : ∀ (i : Nat) (p : Addr) (k : Int × Int), (ys.map (·.2.1))[i]? = some p -> ks[i]? = some k -> H p = some (.tup [.int k.1, .int k.2]) := fun i p k e1 e2 => by
   rw [List.getElem?_map] at e1
   cases ey : ys[i]? with
   | none => rw [ey] at e1; cases e1
   | some y =>
     rw [ey] at e1
     have ep' : y.2.1 = p := Option.some.inj e1
     have hi : i < kvs.length := by
       have := (List.getElem?_eq_some_iff.mp ey).1
       omega
     obtain ⟨y', ey', g1, g2, _⟩ := paired_get pr (List.getElem?_eq_getElem hi)
     rw [ey] at ey'
     cases ey'
     have ek : kvs[i].1 = pairK k := by
       have h1 : (kvs.map (·.1))[i]? = some kvs[i].1 := by rw [List.getElem?_map, List.getElem?_eq_getElem hi]; rfl
       rw [eks, List.getElem?_map, e2] at h1
       exact (Option.some.inj h1).symm
     rw [ek, ep'] at g2
     exact g2
 have hh : X.A.in1.handled = none := I.ok.hd hc
 refine Calls.call_function_entry kind_sorted plain_sorted entry_sorted (args_sorted1 _) ?_
 unfold Builtin.«sorted»
 refine wpAny_bind (m := checkCount "sorted" 1 1 _) (wpAny_pure ?_)
 refine wpAny_bind (kdu_collect (raw_src (es := es) (ep := ep) hsys) hh ⟨o, eo, ex, dat⟩ (by rw [se, sizeLine_eq]; omega) fun h1 tk acc k1 it => ?_)
 have eacc : acc.toList = (ys.map (·.2.1)).map Value.ref := by
   refine List.ext_getElem? fun i => ?_
   by_cases hi : i < es.size
   . have ha : i < acc.size := by rw [it.1]; exact hi
     have e1 : acc[i]? = some acc[i] := Array.getElem?_eq_getElem ha
     obtain ⟨h', e2⟩ := it.2 i _ e1
     rw [Array.getElem?_toList, e1, e2, key i hi, List.getElem?_map]
     have hy : i < (ys.map (·.2.1)).length := by rw [List.length_map]; omega
     rw [List.getElem?_eq_getElem hy]
     simp [List.getD_eq_getElem?_getD, List.getElem?_eq_getElem hy]
   . rw [List.getElem?_eq_none (by rw [Array.length_toList, it.1]; omega), List.getElem?_eq_none (by rw [List.length_map, List.length_map]; omega)]
 rw [eacc]
 generalize hps : ys.map (·.2.1) = ps at eacc tup key
 have lp : ps.length = ks.length := by rw [← hps, List.length_map]; omega
 refine wpAny_bind (wpAny_newList ?_)
 have I1 : Inv X pins σ H { s with heap := h1, toks := tk } := I.kept (t' := tk) k1
 show wpAny _ _ _ _ _ { s with heap := h1.push (seqObj "list" (ps.map Value.ref).toArray 0), toks := tk }
 have oL : (h1.push (seqObj "list" (ps.map Value.ref).toArray 0)).get? h1.objs.size = some (seqObj "list" (ps.map Value.ref).toArray 0) := Heap.get?_push_size _ rfl
 have pa : ∀ (i : Nat) (v : Value) (k : Int × Int), (ps.map Value.ref)[i]? = some v -> ks[i]? = some k -> PairAt (h1.push (seqObj "list" (ps.map Value.ref).toArray 0)) v k := fun i v k e1 e2 => by
   rw [List.getElem?_map] at e1
   cases ep1 : ps[i]? with
   | none => rw [ep1] at e1; cases e1
   | some p =>
     rw [ep1] at e1
     obtain rfl := (Option.some.inj e1).symm
     obtain ⟨its, rv, ⟨ob, eb, cb, nb, db⟩, _⟩ := I1.tuple (.of (tup i p k ep1 e2) : SqT X.K H p _)
     cases rv with
     | cons r1 rv =>
       cases rv with
       | cons r2 rv =>
         cases rv
         obtain ⟨t1, rfl⟩ := r1
         obtain ⟨t2, rfl⟩ := r2
         exact ⟨p, ob, nb, t1, t2, rfl, Heap.get?_push_of_some _ eb, cb, db⟩
 refine wpAny_bind (wpAny_holding (wpAny_call_entry slot_list_sort ⟨_, oL, rfl⟩ entry_list_sort (sort_rise oL (by rw [List.length_map]; exact lp) pa hr (by rw [List.length_map]; omega) ⟨_, rfl, ?_⟩) (args_list_sort _)))
 refine wpAny_pure ⟨_, rfl, ?_⟩
 have lne : ∀ b o, h1.get? b = some o -> b ≠ h1.objs.size := fun b o e => Nat.ne_of_lt (Heap.lt_size e)
 have kf : ∀ b o, h1.get? b = some o -> (sortedHeap (h1.push (seqObj "list" (ps.map Value.ref).toArray 0)) h1.objs.size (ps.map Value.ref) (ps.map Value.ref).toArray).get? b = some o := fun b o e => by
   unfold sortedHeap
   rw [Heap.get?_update_other _ _ (Ne.symm (lne b o e))]
   exact Heap.get?_push_of_some _ (Heap.get?_push_of_some _ ((Heap.get?_update_other _ _ (Ne.symm (lne b o e))).trans (Heap.get?_push_of_some _ e)))
 obtain ⟨c2, o2⟩ : ∃ c, ((h1.push (seqObj "list" (ps.map Value.ref).toArray 0)).update h1.objs.size (Obj.mapSeq fun _ => #[])).get? h1.objs.size = some (seqObj "list" #[] c) := ⟨_, get?_update_seq oL (fun _ => #[])⟩
 obtain ⟨c3, o3⟩ : ∃ c, (sortedHeap (h1.push (seqObj "list" (ps.map Value.ref).toArray 0)) h1.objs.size (ps.map Value.ref) (ps.map Value.ref).toArray).get? h1.objs.size = some (seqObj "list" (ps.map Value.ref).toArray c) :=
   ⟨_, get?_update_seq (Heap.get?_push_of_some _ (Heap.get?_push_of_some _ o2)) (fun _ => (ps.map Value.ref).toArray)⟩
 refine ⟨.ref h1.objs.size, _, I1.laid (t' := tk) (o := .lst (ps.map V.ref)) kf (Nat.le_refl _) ⟨by rw [List.length_map, lp, ← lk]; exact Nat.le_of_lt (small1000 hz), _, c3, vals_ref ps, o3⟩, rfl, ?_⟩
 exact q _ ps (I1.hok.fresh (Nat.le_refl _)) lp tup
end
end L2
set_option Elab.async false
set_option linter.all false
set_option maxRecDepth 100000
set_option maxHeartbeats 4000000
namespace L2
open PySem PySem.Spec PySem.W PyProof.Rows
section
variable {X : Cx}
def rSlS : V -> Option Int -> Option Int -> Hp -> VK -> Prop := fun x lo hi H Q => ∃ (z : Str) (j : Int), x = .str z /\ lo = none /\ hi = some j /\ z.length <= 1000 /\ Q (.str (Txt.slice z none (some j))) H
theorem sl_str : SlR X rSlS := by
 intro pins s σ H x v vl vu lo hi sl Q I rx hs pl pu h
 obtain ⟨z, j, rfl, rfl, rfl, hz, q⟩ := h
 obtain ⟨t, rfl⟩ := rx
 refine ⟨"str", _, PySem.F.slot_str_getitem.lookup, typeIs_str _ _ _, ?_⟩
 cases pl
 cases pu
 exact wpAny_getItem_str_slice (l := none) (u := some (j, _)) (st := none) hs rfl (post_val_or_str ⟨Nat.le_trans (Txt.slice_le z none (some j)) (Nat.le_of_lt (small1000 hz)), fun t' k => ⟨.str _, H, I.tok k, ⟨t', rfl⟩, q⟩⟩)
theorem slice_take (z : Str) (j : Nat) : (Txt.slice z none (some (j : Int))).cps.toList = z.cps.toList.take j := by
 have hl : z.cps.toList.length = z.length := Array.length_toList
 have idx : Builtin.Str.strSliceIndices none (some (j : Int)) 1 z.length = (List.range (min j z.length)).map (0 + ·) := by
   have e : Builtin.Str.strSliceIndices none (some (j : Int)) 1 z.length = sliceRange ((0 : Nat) : Int) ((min j z.length : Nat) : Int) 1 := by
     unfold Builtin.Str.strSliceIndices
     simp only [show (1 : Int) > 0 by decide, if_true, show ¬ ((j : Int) < 0) by omega, if_false]
     congr 1
     omega
   rw [e, sliceRange_one]
   rfl
 unfold Txt.slice
 rw [idx]
 split
 . rename_i h
   have hm : min j z.length = z.length := by simpa using h
   rw [List.take_of_length_le]
   omega
 . rw [pick_run]
   show (z.cps.toList.drop 0).take (min j z.length) = _
   rw [List.drop_zero]
   by_cases hj : j <= z.length
   . rw [Nat.min_eq_left hj]
   . rw [Nat.min_eq_right (by omega), List.take_of_length_le (by omega), List.take_of_length_le (by omega)]
def upN (n : Nat) : List V := (List.range n).map fun i => V.int (i : Nat)
def tLr (te : TE) : TE := fun σ H Q => te σ H fun x H1 => ∃ n : Nat, x = .int n /\ n <= 1000 /\ ∀ l, H1 l = none -> Q (.ref l) (upd H1 l (.lst (upN n)))
theorem vals_up {n : Nat} {acc : Array Value} (h : ItemsOf (fun i v => ∃ t, v = .int (0 + i * 1) t) acc n) : Vals (upN n) acc.toList := by
 obtain ⟨hz, hv⟩ := h
 refine paired_of _ _ (by simp [upN, hz]) fun i x u h1 h2 => ?_
 have h2' : acc[i]? = some u := by simpa using h2
 obtain ⟨t, rfl⟩ := hv i u h2'
 have hi : i < n := by
   have := (Array.getElem?_eq_some_iff.mp h2').1
   omega
 unfold upN at h1
 rw [List.getElem?_map, List.getElem?_range hi] at h1
 obtain rfl := (Option.some.inj h1).symm
 refine ⟨t, ?_⟩
 congr 1
 omega
variable {e : Expr} {te : TE} {p1 p3 pos1 pos3 : Pos}
theorem je_lr (hc : X.calm = true) (g1 : Gl X "list") (m1 : X.mg "list" = none) (g3 : Gl X "range") (m3 : X.mg "range" = none) (ha : JE X e te) (hs : starEach [e] X.env = [(false, eval e X.env)] := by rfl) (hs2 : starEach [.Call (.Name "range" p3) [e] [] pos3] X.env = [(false, eval (.Call (.Name "range" p3) [e] [] pos3) X.env)] := by rfl) : JE X (.Call (.Name "list" p1) [.Call (.Name "range" p3) [e] [] pos3] [] pos1) (tLr te) := .of (by
 have ha := ha.to
 intro pins s σ H Q I h
 refine Call_ (ld_blt I g1 m1 boot_list (PyProof.Rows.callWith_type1 (spl1 hs2 ?_) (by rw [hs2]; rfl) rfl))
 refine Call_ (ld_blt I g3 m3 boot_range (PyProof.Rows.callWith_type1 (spl1 hs (thn (ha pins s σ H _ I h) fun u s1 ⟨x, H1, I1, r1, q1⟩ => ?_)) (by rw [hs]; rfl) rfl))
 obtain ⟨n, rfl, hn, q⟩ := q1
 obtain ⟨t, rfl⟩ := r1
 refine call_range_1 ?_
 refine call_list_range (n := n) (I1.ok.hd hc) (IsRange.new ..) (small_one (by omega) (by omega) (by omega) (by omega)) (rr_size n) (by omega) fun h' tk acc' c' kp e hi => ?_
 have s1z : s1.heap.objs.size <= (s1.heap.push ({ cls := .type "range", data := .fields #[.int 0 s1.toks, .int n t, .int 1 (s1.toks + 1)] } : Obj)).objs.size := by
   rw [Heap.size_push]
   omega
 exact ⟨.ref _, _, I1.laid (t' := tk) (o := .lst (upN n)) (fun b o eb => kp b o (Heap.get?_push_of_some _ eb)) s1z ⟨by simp only [upN, List.length_map, List.length_range]; exact Nat.le_of_lt (small1000 hn), acc'.toList, c', vals_up hi, by simpa using e⟩, rfl, q _ (I1.hok.fresh s1z)⟩)
theorem call_setL (hc : X.calm = true) : CallR X (.type "set") (fun xs H Q => ∃ (p : Addr) (ns : List Int), xs = [.ref p] /\ SqL X.K H p (ns.map V.int) /\ ns.length <= 1000 /\ ∀ l S, H l = none -> Q (.ref l) (upd H l (.set S (firstMet (fun i => ns.getD i 0) ns.length).length))) := by
 intro pins s σ H xs us Q I r h
 obtain ⟨p, ns, rfl, hq, hz, q⟩ := h
 obtain ⟨u, rfl, ru⟩ := vals1 r
 cases ru
 obtain ⟨its, rv, pl, _⟩ := I.list hq
 have hl := rv.length
 rw [List.length_map] at hl
 have hsz : its.toArray.size = ns.length := by rw [List.size_toArray, ← hl]
 refine call_set_list (ns := ns) (I.ok.hd hc) pl.isList (by simpa using intsAre_of rv) (by rw [hsz]; show ns.length + 1 < 4096; omega) fun h' tk so kp => ?_
 rw [hsz] at so
 exact ⟨.ref s.heap.objs.size, _, I.laid (t' := tk) (o := .set _ _) (fun b o e => kp b o (Heap.lt_size e) e) (Nat.le_refl _) so, rfl, q _ _ (I.hok.fresh (Nat.le_refl _))⟩
theorem call_lenSet : CallR X (.builtin "len") (fun xs H Q => ∃ a S n, xs = [V.ref a] /\ H a = some (.set S n) /\ Q (.int (n : Nat)) H) := by
 intro pins s σ H xs us Q I r h
 obtain ⟨a, S, n, rfl, ea, q⟩ := h
 obtain ⟨u, rfl, ru⟩ := vals1 r
 cases ru
 obtain ⟨o, es, ep, t, e1, e2, e3, _, _, b, f, rfl⟩ := (show ObjOk X.prog X.w H s.heap a (.set S n) from I.hok a _ ea)
 refine call_len_set e1 e2 e3 f (by have : es.size < 4096 := b; omega) ⟨.int _, H, I.tok _, ⟨_, rfl⟩, q⟩
end
end L2
set_option Elab.async false
set_option linter.all false
set_option maxRecDepth 100000
set_option maxHeartbeats 4000000
namespace L2
open PySem PySem.Spec PyProof.Rows
def Ite (K : PySem.W.Frag) (a : Addr) : It := ⟨fun i H => ∃ xs x, SqL K H a xs /\ xs[i]? = some x,
 fun i H v H' => ∃ p, H p = none /\ v = .ref p /\ ∀ xs x, SqL K H a xs -> xs[i]? = some x -> H' = upd H p (.tup [.int (i : Nat), x]),
 fun i H => ∃ xs, SqL K H a xs /\ xs.length <= i⟩
theorem turn_enum {P : Program} {w : World} {K : PySem.W.Frag} {elts : List Expr} {x1 : Nat} {tpos : Pos} (a e it : Addr) (hne : e ≠ it) :
   Turn P w K (.Tuple elts x1 tpos) (Ite K a) [e, it] e (fun i h => (∃ old, IsEnum h e it i old) /\ h.IsListIter it a i) where
 mem := by simp
 obj := fun i h st c hc => by
   obtain ⟨⟨old, he⟩, ⟨o1, e1, c1, d1⟩⟩ := st
   simp only [List.mem_cons, List.mem_nil_iff, or_false] at hc
   rcases hc with rfl | rfl
   . exact ⟨_, he, fun v z => by cases z⟩
   . exact ⟨o1, e1, fun v z => by rw [d1] at z; cases z⟩
 keep := fun i h h' st k => by
   obtain ⟨⟨old, he⟩, h1⟩ := st
   exact ⟨⟨old, k e (by simp) _ he⟩, h1.at fun o e => k it (by simp) o e⟩
 item := by
   intro X hP hw hK hc i pins s σ H E I hf st hg
   subst hP hw hK
   obtain ⟨⟨old, he⟩, h1⟩ := st
   obtain ⟨xs, x, qa, hx⟩ := hg
   obtain ⟨its, rv, p, _⟩ := I.list qa
   obtain ⟨u, hu, ru⟩ := rv.get hx
   refine wpAny_pyNext_enum_item he h1 p.isList (x := u) (by simpa using hu) hne fun h' z1 z2 z3 z4 kk => ⟨_, rfl, ?_⟩
   refine wpAny_letOwnedTupleGo_enum z1 fun h'' z1' sb => ?_
   have nT : ∀ c o, s.heap.get? c = some o -> s.heap.objs.size ≠ c := fun c o e => Nat.ne_of_gt (Heap.lt_size e)
   have kT : ∀ c o, c ≠ e -> h'.get? c = some o -> h''.get? c = some o := fun c o hc e => (sb.2 c hc).trans e
   have I1 : Inv X pins σ (upd H s.heap.objs.size (.tup [.int (i : Nat), x])) { s with heap := h'', toks := s.toks + 1 } := I.turnLaid (L := [e, it]) (t' := s.toks + 1)
     (fun c o hc e => kT c o (fun z => hc (by simp [z])) (kk c o (fun z => hc (by simp [z])) (fun z => hc (by simp [z])) e)) hf (Nat.le_refl _)
     ⟨by show 2 <= sizeLine; decide, [.int i s.toks, u], .cons ⟨_, rfl⟩ (.cons ru .nil), ⟨_, kT _ _ (nT _ _ he) z3, rfl, _, rfl⟩⟩
   refine ⟨.ref s.heap.objs.size, _, I1, rfl, ⟨s.heap.objs.size, I.hok.fresh (Nat.le_refl _), rfl, fun xs' x' qa' hx' => ?_⟩, ⟨⟨_, z1'⟩, z2.at fun o e => kT _ o (Ne.symm hne) e⟩, fun c hc => ?_⟩
   . rw [I.list_inj qa' qa, hx] at hx'
     cases hx'
     rfl
   . have h0 := (hf c hc).1
     by_cases ec : c = s.heap.objs.size
     . subst ec
       obtain ⟨o1, e1, _⟩ := h1
       simp only [List.mem_cons, List.mem_nil_iff, or_false] at hc
       rcases hc with e | e
       . exact absurd e (nT _ _ he)
       . exact absurd e (nT _ _ e1)
     . rw [qah ec]; exact h0
 done := by
   intro X hP hw hK hc i pins s σ H E I hf st hg
   subst hP hw hK
   obtain ⟨⟨old, he⟩, h1⟩ := st
   obtain ⟨xs, qa, hl⟩ := hg
   obtain ⟨its, rv, p, _⟩ := I.list qa
   have l1 := rv.length
   exact wpAny_pyNext_enum_end (I.ok.hd hc) he h1 p.isList (by simp; omega) fun h' kk => ⟨rfl, I.turnedL (L := [e, it]) (t' := s.toks) (fun c o hc e => kk c o (fun z => hc (by simp [z])) e) hf⟩
 self := fun _ _ _ _ _ st h => let ⟨⟨_, he⟩, _⟩ := st; wpAny_pyIter_enum he h
section
variable {X : Cx} {elts : List Expr} {x1 : Nat} {tpos : Pos}
def iEnum (K : PySem.W.Frag) (ta : TA) : TI := fun σ H R => ta σ H fun vs H1 => ∃ a, vs = [.ref a] /\ (∃ xs, SqL K H1 a xs) /\ R (Ite K a) H1
theorem ji_enum {a : Expr} {ta : TA} {p pos : Pos} (hg : Gl X "enumerate") (hm : X.mg "enumerate" = none) (ha : JA X [a] ta) (hs : starEach [a] X.env = [(false, eval a X.env)] := by rfl) : JI X (.Tuple elts x1 tpos) (.Call (.Name "enumerate" p) [a] [] pos) (iEnum X.K ta) := .of (by
 have ha := ha.to
 intro pins s σ H R I h
 refine Call_ (ld_blt I hg hm boot_enumerate (PyProof.Rows.callWith_type1 (thn (ha pos pins s σ H _ I h) fun us s1 ⟨vs, H1, I1, r1, q1⟩ => ?_) (by rw [hs]; rfl) rfl))
 obtain ⟨l, e, ⟨xs, qa⟩, q⟩ := q1
 subst e
 cases r1 with
 | cons r rr =>
   cases rr
   cases r
   obtain ⟨its, rv, p, _⟩ := I1.list qa
   refine call_enumerate_list p.isList fun h' z1 z2 z3 kk => ?_
   refine wpAny_pyIter_enum z1 ?_
   have I2 : Inv X pins σ H1 { s1 with heap := h' } := I1.kept (t' := s1.toks) kk
   have fr : ∀ c, s1.heap.objs.size <= c -> FpOk X pins H1 c := fun c hc => I1.fpOk hc (I1.hok.fresh hc)
   refine ⟨s1.heap.objs.size + 1, [s1.heap.objs.size + 1, s1.heap.objs.size], _, _, H1, rfl, I2, turn_enum l (s1.heap.objs.size + 1) s1.heap.objs.size (Nat.succ_ne_self _), ⟨⟨_, z1⟩, z2⟩, fun c hc => ?_, q⟩
   simp only [List.mem_cons, List.mem_nil_iff, or_false] at hc
   rcases hc with e | e <;> rw [e] <;> first | exact fr _ (Nat.le_add_right _ _) | exact fr _ (Nat.le_refl _))
end
theorem for_enum {K : PySem.W.Frag} {a : Addr} {xs : List V} {g : TG} {tb : TS} {D : Ends} {σ : St} {H : Hp} (Pv : Nat -> St -> Hp -> Prop) (h0 : Pv 0 σ H) (hl : ∀ i σ H, i <= xs.length -> Pv i σ H -> SqL K H a xs)
   (hs : ∀ i x σ H p, xs[i]? = some x -> H p = none -> Pv i σ H -> g (.ref p) σ (upd H p (.tup [.int (i : Nat), x])) fun σ2 H2 => tb { D with nx := Pv (i + 1), ct := Pv (i + 1), bk := D.nx } σ2 H2) (hd : ∀ σ H, Pv xs.length σ H -> D.nx σ H) :
   ∃ W : Nat -> Nat -> St -> Hp -> Prop, (∃ m, W 0 m σ H) /\ ∀ i m σ H, W i m σ H →
     ((Ite K a).stop i H /\ D.nx σ H) ∨ ((Ite K a).go i H /\ ∃ N : St -> Hp -> Prop, (∀ σ' H', N σ' H' -> ∃ m', m' < m /\ W (i + 1) m' σ' H') /\ ∀ x H', (Ite K a).yld i H x H' -> g x σ H' fun σ2 H2 => tb { D with nx := N, ct := N, bk := D.nx } σ2 H2) := by
 refine ⟨fun i m σ H => m = xs.length - i /\ i <= xs.length /\ Pv i σ H, ⟨xs.length, by simp, Nat.zero_le _, h0⟩, ?_⟩
 rintro i m σ H ⟨rfl, hi, p⟩
 have qa := hl i σ H hi p
 by_cases hlt : i < xs.length
 . have ex : xs[i]? = some xs[i] := List.getElem?_eq_getElem hlt
   refine .inr ⟨⟨xs, _, qa, ex⟩, Pv (i + 1), fun σ' H' p' => ⟨xs.length - (i + 1), by omega, rfl, hlt, p'⟩, fun x H' yl => ?_⟩
   obtain ⟨pp, hp, rfl, e⟩ := yl
   rw [e xs _ qa ex]
   exact hs i _ σ H pp ex hp p
 . have e : i = xs.length := by omega
   subst e
   exact .inl ⟨⟨xs, qa, Nat.le_refl _⟩, hd σ H p⟩
theorem preSum_take (ns : List Nat) : ∀ i, i <= ns.length -> preSum (fun j => ((ns.getD j 0 : Nat) : Int)) i = (((ns.take i).sum : Nat) : Int)
 | 0, _ => by simp [preSum]
 | i + 1, h => by
   have hi : i < ns.length := h
   show preSum _ i + _ = _
   rw [preSum_take ns i (Nat.le_of_lt hi), List.take_add_one, List.getElem?_eq_getElem hi, List.sum_append]
   simp [List.getD_eq_getElem?_getD, List.getElem?_eq_getElem hi]
theorem sum_take_le (ns : List Nat) (i : Nat) : (ns.take i).sum <= ns.sum := by
 have h : (ns.take i ++ ns.drop i).sum = ns.sum := by rw [List.take_append_drop]
 rw [List.sum_append] at h
 omega
theorem getD_le_sum (ns : List Nat) (i : Nat) : ns.getD i 0 <= ns.sum := by
 have h := sum_take_le ns (i + 1)
 rw [List.take_add_one, List.sum_append] at h
 rw [List.getD_eq_getElem?_getD]
 cases e : ns[i]? with
 | none => exact Nat.zero_le _
 | some x =>
   rw [e] at h
   simp at h ⊢
   omega
section
variable {X : Cx}
theorem call_sumN (hc : X.calm = true) : CallR X (.builtin "sum") (fun xs H Q => ∃ (p : Addr) (ns : List Nat), xs = [.ref p] /\ SqL X.K H p (ns.map fun n => V.int ((n : Nat) : Int)) /\ ns.sum < 2 ^ 62 /\ Q (.int (ns.sum : Nat)) H) := by
 intro pins s σ H xs us Q I r h
 obtain ⟨p, ns, rfl, hq, hs, q⟩ := h
 obtain ⟨u, rfl, rx⟩ := vals1 r
 cases rx
 obtain ⟨its, rv, pl, hz⟩ := I.list hq
 have hlt : p < s.heap.objs.size := by
   obtain ⟨o, n, e, _⟩ := pl
   exact Heap.lt_size e
 have hn : its.toArray.size = ns.length := by
   have := rv.length
   rw [List.length_map] at this
   simp only [List.size_toArray]
   omega
 have hh : X.A.in1.handled = none := I.ok.hd hc
 refine call_sum_walk (wpAny_pyIter_list pl.isList ?_)
 refine ⟨s.heap.objs.size, [s.heap.objs.size, p], [s.heap.objs.size], its.toArray.size, fun i v => its.toArray[i]? = some v, _, fun j => ((ns.getD j 0 : Nat) : Int), rfl, Walks.list hh s.heap.objs.size p (Nat.ne_of_lt hlt) its.toArray,
   ⟨⟨_, Heap.get?_push_size _ rfl, rfl, rfl⟩, pl.isList.at fun o e => Heap.get?_push_of_some _ e⟩, ?_, ?_, ?_, fun h' tk t' hk => ?_⟩
 . intro b hb
   show b < (s.heap.push _).objs.size
   rw [Heap.size_push]
   simp only [List.mem_cons, List.mem_nil_iff, or_false] at hb
   rcases hb with e | e
   . rw [e]; exact Nat.lt_succ_self _
   . rw [e]; exact Nat.lt_succ_of_lt hlt
 . intro i v hP
   have hi : its[i]? = some v := by simpa using hP
   cases e : ns[i]? with
   | none =>
     exfalso
     have h1 : (ns.map fun n => V.int ((n : Nat) : Int))[i]? = none := by rw [List.getElem?_map, e]; rfl
     rw [Vals.none_of rv h1] at hi
     cases hi
   | some b =>
     have h1 : (ns.map fun n => V.int ((n : Nat) : Int))[i]? = some (V.int b) := by rw [List.getElem?_map, e]; rfl
     obtain ⟨u, hu, ru⟩ := rv.get h1
     rw [hi] at hu
     cases hu
     obtain ⟨t, rfl⟩ := ru
     refine ⟨t, ?_⟩
     show Value.int b t = .int ((ns.getD i 0 : Nat) : Int) t
     rw [List.getD_eq_getElem?_getD, e]
     rfl
 . intro j hj
   rw [hn] at hj
   have h1 := getD_le_sum ns j
   have h2 := sum_take_le ns (j + 1)
   have h3 := preSum_take ns (j + 1) hj
   refine ⟨⟨?_, ?_⟩, ⟨?_, ?_⟩⟩
   . show -(2 ^ 63) <= ((ns.getD j 0 : Nat) : Int)
     omega
   . show ((ns.getD j 0 : Nat) : Int) < 2 ^ 63
     omega
   . rw [h3]; omega
   . rw [h3]; omega
 . rw [hn, preSum_take ns _ (Nat.le_refl _), List.take_of_length_le (Nat.le_refl _)]
   refine ⟨.int (ns.sum : Nat), H, ?_, ⟨_, rfl⟩, q⟩
   exact I.kept (h' := h') (t' := tk) fun b o e => hk b o (by
     intro z
     have z' : b = s.heap.objs.size := by simpa using z
     exact absurd (Heap.lt_size e) (by rw [z']; exact Nat.lt_irrefl _)) (Heap.get?_push_of_some _ e)
end
end L2
set_option Elab.async false
set_option linter.all false
set_option maxRecDepth 100000
set_option maxHeartbeats 4000000
namespace L2
open PySem PySem.Spec PyProof.Rows
section
variable {X : Cx} {pins : List (Addr × Obj)} {σ : St} {H : Hp} {s : Shared} {a b : Addr} {kvs more : List (Key × V)} {A : Around} {E : Value -> Shared -> Prop}
end
section
variable {X : Cx} {o e : Expr} {apos cpos : Pos} {td ty : TE}
end
theorem len0 {us : List Value} (h : us.length = 0) : us = [] := List.eq_nil_of_length_eq_zero h
theorem lenS {us : List Value} {n : Nat} (h : us.length = n + 1) : ∃ a r, us = a :: r /\ r.length = n := by
 cases us with
 | nil => cases h
 | cons a r => exact ⟨a, r, rfl, Nat.succ.inj h⟩
theorem len1 {us : List Value} (h : us.length = 1) : ∃ a, us = [a] := by
 obtain ⟨a, r, rfl, h'⟩ := lenS h
 exact ⟨a, by rw [len0 h']⟩
theorem len2 {us : List Value} (h : us.length = 2) : ∃ a b, us = [a, b] := by
 obtain ⟨a, r, rfl, h'⟩ := lenS h
 obtain ⟨b, rfl⟩ := len1 h'
 exact ⟨a, b, rfl⟩
theorem len3 {us : List Value} (h : us.length = 3) : ∃ a b c, us = [a, b, c] := by
 obtain ⟨a, r, rfl, h'⟩ := lenS h
 obtain ⟨b, c, rfl⟩ := len2 h'
 exact ⟨a, b, c, rfl⟩
theorem len4 {us : List Value} (h : us.length = 4) : ∃ a b c d, us = [a, b, c, d] := by
 obtain ⟨a, r, rfl, h'⟩ := lenS h
 obtain ⟨b, c, d, rfl⟩ := len3 h'
 exact ⟨a, b, c, d, rfl⟩
end L2
set_option Elab.async false
set_option linter.all false
set_option maxRecDepth 100000
set_option maxHeartbeats 4000000
namespace L2
open PySem PySem.Spec PyProof.Rows
section
variable {X : Cx} {pins : List (Addr × Obj)} {σ : St} {H : Hp} {s : Shared} {E : Value -> Shared -> Prop} {a : Value}
end
section
variable {X : Cx} {f : Str} {e : Expr} {pos : Pos} {ta : TE} {bm : List Value}
end
end L2
set_option Elab.async false
set_option linter.all false
set_option maxRecDepth 100000
set_option maxHeartbeats 4000000
namespace PySem
open PySem.Spec
namespace F
theorem plain_dupd_loop : plainId "dict.update.loop" = true := by decide +kernel
theorem entry_dupd_loop : entryFor table "dict.update.loop" = some Builtin.«dict.update.loop» := entryFor_of_fast (by kernel_rfl)
end F
theorem Heap.DictOf.keepsAt {prog : Program} {w : World} {κ : Type} [DecidableEq κ] {knd : KeyKind prog w κ} {h h' : Heap} {a : Addr} {kvs : List (κ × Value)} (hm : h.DictOf knd a kvs) (k : ∀ o, h.get? a = some o -> h'.get? a = some o) : h'.DictOf knd a kvs :=
 let ⟨o, es, ep, ho, r⟩ := hm; ⟨o, es, ep, k o ho, r⟩
section
variable {prog : Program} {w : World} {A : Around} {R : Result -> Shared -> Prop} {I : Addr} {fp wr : List Addr} {n : Nat} {P : Nat -> Value -> Prop} {St : Nat -> Heap -> Prop} {κ : Type} [DecidableEq κ] {knd : KeyKind prog w κ}
def PairIs (knd : KeyKind prog w κ) (h : Heap) (wr : List Addr) (d : Addr) (v : Value) (kv : κ × Value) : Prop := ∃ p o c k, v = .ref p /\ h.get? p = some o /\ o.cls = .type "tuple" /\ o.data = .seq #[k, kv.2] c /\ knd.is kv.1 k = true /\ p ∉ wr /\ p ≠ d
theorem codeAny_dupd_loop (W : Walks prog w A.in1 I fp wr n P St) (kv : Nat -> κ × Value) (d : Addr) (hdf : d ∉ fp) (hn : n <= 1000) :
   ∀ (k i : Nat) (s : Shared) (t : Tok) (kvs : List (κ × Value)), n - i = k -> i <= n -> St i s.heap -> s.heap.DictOf knd d kvs -> kvs.length <= i -> (∀ j v, P j v -> PairIs knd s.heap wr d v (kv j)) →
   (∀ h' tk, h'.DictOf knd d (merged kvs (((List.range n).drop i).map kv)) -> (∀ b o, b ∉ wr -> b ≠ d -> s.heap.get? b = some o -> h'.get? b = some o) -> R (.ok (.ret .none)) { s with heap := h', toks := tk }) →
   codeAny (model prog w) A (.builtin "dict.update.loop" ⟨[.ref d, .ref I, .int i t, .none], []⟩) R s := by
 have hdw : d ∉ wr := fun h => hdf (W.sub _ h)
 intro k
 induction k with
 | zero =>
   intro i s t kvs hk hi hst hd hl hp hR
   have hin : i = n := by omega
   subst hin
   refine codeAny_builtin F.entry_dupd_loop ?_
   rw [Around.under_plainId F.plain_dupd_loop _]
   show wpAny _ A.in1 (pyNext (.ref I) >>= _) _ _ s
   refine wpAny_bind (W.done s _ _ hst fun h' tk hk' => ?_)
   show wpAny _ A.in1 (Builtin.Dict.addKeywords d [] >>= _) _ _ _
   refine wpAny_bind (wpAny_pure (wpAny_pure (hR h' tk ?_ fun b o hb _ e => hk' b o hb e)))
   rw [List.drop_of_length_le (by simp)]
   exact hd.keepsAt fun o e => hk' d o hdw e
 | succ k ih =>
   intro i s t kvs hk hi hst hd hl hp hR
   have hlt : i < n := by omega
   refine codeAny_builtin F.entry_dupd_loop ?_
   rw [Around.under_plainId F.plain_dupd_loop _]
   show wpAny _ A.in1 (pyNext (.ref I) >>= _) _ _ s
   refine wpAny_bind (W.item i s _ _ hlt hst fun v h' tk hP hst' hk' => ?_)
   obtain ⟨p, o, c, key, rfl, ho, hc, hdat, hkey, hpw, hpd⟩ := hp i v hP
   have ho' := hk' p o hpw ho
   have hd' : h'.DictOf knd d kvs := hd.keepsAt fun o e => hk' d o hdw e
   have ty : (⟨h', s.gens, s.drawn, tk, s.os⟩ : Shared).TypeIs (.ref p) "tuple" := ⟨o, ho', hc⟩
   refine wpAny_bind (wpAny_holding (wpAny_bind (wpAny_tryCatch ?_)))
   unfold Builtin.Dict.pairItems
   refine wpAny_bind (wpAny_typeOf ty ?_)
   rw [if_pos (by decide)]
   refine wpAny_bind (wpAny_seqItems ho' hdat (wpAny_pure ?_))
   refine (show wpAny _ _ (holding [key, (kv i).2] (dictSet d key (kv i).2)) _ _ _ from wpAny_holding (wpAny_dictSet_pairs hkey hd' (fun h'' dd hs => ?_) (by rw [sizeLine_eq]; omega)))
   refine wpAny_pure ⟨plainId_quiet F.plain_dupd_loop _, ?_⟩
   have keep : ∀ b o, b ∉ wr -> b ≠ d -> s.heap.get? b = some o -> h''.get? b = some o := fun b o hb hbd e => (hs.2 b hbd).trans (hk' b o hb e)
   have len : (stored kvs (kv i).1 (kv i).2).length <= i + 1 := by
     have := stored_length_le kvs (kv i).1 (kv i).2
     omega
   refine ih (i + 1) _ _ (stored kvs (kv i).1 (kv i).2) (by omega) hlt (W.frame _ _ _ hst' fun b hb o e => (hs.2 b (fun z => hdf (z ▸ hb))).trans e) dd len (fun j v hj => ?_) fun h3 tk3 d3 k3 => ?_
   . obtain ⟨p, o, c, k, e1, e2, r⟩ := hp j v hj
     exact ⟨p, o, c, k, e1, keep p o r.2.2.2.1 r.2.2.2.2 e2, r⟩
   . refine hR h3 tk3 ?_ fun b o hb hbd e => k3 b o hb hbd (keep b o hb hbd e)
     have e : (List.range n).drop i = i :: (List.range n).drop (i + 1) := by
       rw [List.drop_eq_getElem_cons (by simpa using hlt)]
       simp
     rw [e]
     exact d3
end
section
variable {prog : Program} {w : World} {A : Around} {E : Value -> Shared -> Prop} {s : Shared} {κ : Type} [DecidableEq κ] {knd : KeyKind prog w κ}
theorem lk_list_keys : typeLookup (.type "list") "keys" = pure none := by rw [typeLookup_type, builtinLookup_eq_fast]; kernel_rfl
theorem keys_of_list {a : Addr} {o : Obj} {xs : Array Value} {k : Nat} {Q : Option Value -> Shared -> Prop} (hx : s.heap.get? a = some o) (hc : o.cls = .type "list") (hdat : o.data = .seq xs k) (hd : o.dict = none) (hA : A.handled = none)
   (h : ∀ h' tk, (∀ b o, s.heap.get? b = some o -> h'.get? b = some o) -> Q none { s with heap := h', toks := tk }) : wpAny (model prog w) A (getAttr? (.ref a) "keys") Q E s := by
 obtain ⟨c, dct, dat, sl⟩ := o
 simp only at hc hdat hd
 subst hc hdat hd
 obtain ⟨hp, g, d, tk, os⟩ := s
 have hT : ∀ tk', (⟨hp, g, d, tk', os⟩ : Shared).TypeIs (.ref a) "list" := fun _ => ⟨_, hx, rfl⟩
 have f1 := sub_AttributeError
 have f3 := F.slot_list_getattribute.lookup
 have f4 := F.slot_list_getattribute.bind (.ref a)
 have f5 := am_list_getattr_none
 unfold getAttr? getAttrBy? getAttrBy
 repeat (any_goals (first | assumption | exact hT _ | ((with_reducible show wpAny _ _ (call (Value.builtin "list.__getattribute__") _ _) _ _ _); refine call_meets F.slot_list_getattribute (hT _) am_entry_list_getattribute (F.args_list_getattribute_2 _ _) (meets_getattribute_miss_list a xs k sl "keys" _ lk_list_keys (by decide +kernel)) ⟨hx, hA, fun h' tk' e hx' => ?_⟩) | wp_step))
 obtain ⟨t', u', he⟩ := hx'.there
 show wpAny _ _ (getattributeRaised _ _ _ _ _ _ _) _ _ _
 unfold getattributeRaised
 repeat (any_goals (first | assumption | wp_step))
 exact h _ _ hx'.of.keeps
theorem call_dict_pairs {src : Addr} {items : Array Value} {kv : Nat -> κ × Value} {Q : Value -> Shared -> Prop} (pl : PlainL s.heap src items) (hp : ∀ j v, items[j]? = some v -> ∃ p o c key, v = .ref p /\ s.heap.get? p = some o /\ o.cls = .type "tuple" /\ o.data = .seq #[key, (kv j).2] c /\ knd.is (kv j).1 key = true)
   (hn : items.size <= 1000) (hA : A.handled = none)
   (h : ∀ h' tk, h'.DictOf knd s.heap.objs.size (merged [] ((List.range items.size).map kv)) -> (∀ b o, s.heap.get? b = some o -> h'.get? b = some o) -> Q (.ref s.heap.objs.size) { s with heap := h', toks := tk }) :
   wpAny (model prog w) A (call (.type "dict") [.ref src]) Q E s := by
 refine callType_codes (Q₁ := fun obj s₁ => obj = .ref s.heap.objs.size /\ s₁ = { s with heap := s.heap.push { cls := .type "dict", data := .dict #[] } }) F.kt_called_dict (F.kt_typeCall_dict_1 _) F.entry_dict_init (kt_code_dict_new _ ⟨rfl, rfl⟩) ?_
 rintro obj s₁ ⟨rfl, rfl⟩
 have hnew : (s.heap.push { cls := .type "dict", data := .dict #[] }).DictOf knd s.heap.objs.size [] := Heap.DictOf.new s.heap
 have hp0 : ∀ b o, s.heap.get? b = some o -> (s.heap.push { cls := .type "dict", data := .dict #[] }).get? b = some o := fun b o e => Heap.get?_push_of_some _ e
 obtain ⟨ol, nl, ho, hc, hd, hdat⟩ := id pl
 have ty : (⟨s.heap.push { cls := .type "dict", data := .dict #[] }, s.gens, s.drawn, s.toks, s.os⟩ : Shared).TypeIs (.ref src) "list" := ⟨ol, hp0 _ _ ho, hc⟩
 refine ⟨hnew.typeIs, F.args_dict_init_2 _ _, ?_⟩
 unfold Builtin.«dict.__init__»
 refine wpAny_bind ?_
 unfold Builtin.Dict.selfAndRest
 refine wpAny_bind (wpAny_notOrdered_dict hnew.typeIs ?_)
 show wpAny _ _ (pure (s.heap.objs.size, [Value.ref src])) _ _ _
 refine wpAny_pure ?_
 show wpAny _ _ (Builtin.Dict.updateFrom "dict.__init__" s.heap.objs.size (.ref src) [] .none) _ _ _
 unfold Builtin.Dict.updateFrom
 refine wpAny_bind (wpAny_typeOf ty ?_)
 rw [if_pos (by decide)]
 refine wpAny_bind (keys_of_list (hp0 _ _ ho) hc hdat hd hA fun h1 tk1 k1 => ?_)
 rw [if_pos (show (none : Option Value).isNone = true from rfl)]
 refine wpAny_bind (wpAny_rule ?_)
 have pl1 : PlainL h1 src items := ⟨ol, nl, k1 _ _ (hp0 _ _ ho), hc, hd, hdat⟩
 have hlt : src < h1.objs.size := Heap.lt_size (k1 _ _ (hp0 _ _ ho))
 have hnew1 : h1.DictOf knd s.heap.objs.size [] := hnew.keepsAt fun o e => k1 _ o e
 have hld : s.heap.objs.size < h1.objs.size := by
   obtain ⟨o, _, _, e, _⟩ := hnew1
   exact Heap.lt_size e
 refine wpAny_bind (wpAny_pyIter_list pl1.isList ?_)
 refine wpAny_pure ⟨plainId_quiet F.plain_dupd_loop _, ?_⟩
 have W := Walks.list (prog := prog) (w := w) (A := A.in1.in1) hA h1.objs.size src (Nat.ne_of_lt hlt) items
 have nsrc : s.heap.objs.size ≠ src := Ne.symm (Nat.ne_of_lt (Heap.lt_size ho))
 refine codeAny_dupd_loop (A := A.in1) W kv s.heap.objs.size (by simp only [List.mem_cons, List.mem_nil_iff, or_false, not_or]; exact ⟨Nat.ne_of_lt hld, nsrc⟩) hn items.size 0 _ _ [] (by omega) (Nat.zero_le _)
   ⟨⟨_, Heap.get?_push_size _ rfl, rfl, rfl⟩, pl1.isList.at fun o e => Heap.get?_push_of_some _ e⟩ (hnew1.push _) (Nat.zero_le _) (fun j v hj => ?_) fun h2 tk2 d2 k2 => ⟨rfl, h h2 tk2 d2 fun b o e => ?_⟩
 . obtain ⟨p, o, c, key, e1, e2, e3, e4, e5⟩ := hp j v hj
   have e2' := k1 _ _ (hp0 _ _ e2)
   refine ⟨p, o, c, key, e1, Heap.get?_push_of_some _ e2', e3, e4, e5, ?_, Nat.ne_of_lt (Heap.lt_size e2)⟩
   simp only [List.mem_cons, List.mem_nil_iff, or_false]
   exact Nat.ne_of_lt (Heap.lt_size e2')
 . have e' := k1 _ _ (hp0 _ _ e)
   refine k2 b o ?_ (Nat.ne_of_lt (Heap.lt_size e)) (Heap.get?_push_of_some _ e')
   simp only [List.mem_cons, List.mem_nil_iff, or_false]
   exact Nat.ne_of_lt (Heap.lt_size e')
end
end PySem
namespace L2
open PySem PySem.Spec PyProof.Rows
section
variable {X : Cx} {pins : List (Addr × Obj)} {σ : St} {H : Hp} {s : Shared}
def rDictP (K : PySem.W.Frag) : List V -> Hp -> VK -> Prop := fun xs H Q => ∃ (p : Addr) (ps : List Addr) (kvs : List (Key × V)), xs = [.ref p] /\ SqL K H p (ps.map V.ref) /\ ps.length = kvs.length /\ (∀ (i : Nat) (a : Addr) (kv : Key × V), ps[i]? = some a -> kvs[i]? = some kv -> SqT K H a [kV kv.1, kv.2]) /\ kvs.length <= 1000 ∧
 ∀ d, H d = none -> Q (.ref d) (upd H d (.dK (mergeK [] kvs)))
theorem pairs_vals (I : Inv X pins σ H s) : ∀ (ps : List Addr) (kvs : List (Key × V)), ps.length = kvs.length -> (∀ (i : Nat) (a : Addr) (kv : Key × V), ps[i]? = some a -> kvs[i]? = some kv -> SqT X.K H a [kV kv.1, kv.2]) →
   ∃ rs : List (Key × Value), KV kvs rs /\ rs.length = ps.length /\ ∀ (i : Nat) (a : Addr), ps[i]? = some a -> ∃ kv o c key, rs[i]? = some kv /\ s.heap.get? a = some o /\ o.cls = .type "tuple" /\ o.data = .seq #[key, kv.2] c /\ (mixKind X.prog X.w).is kv.1 key = true
 | [], [], _, _ => ⟨[], .nil, rfl, fun i a e => by simp at e⟩
 | [], _ :: _, h, _ => by cases h
 | _ :: _, [], h, _ => by cases h
 | a :: ps, kv :: kvs, h, k => by
   obtain ⟨rs, r1, r2, r3⟩ := pairs_vals I ps kvs (Nat.succ.inj h) fun i a' kv' e1 e2 => k (i + 1) a' kv' (by simpa using e1) (by simpa using e2)
   obtain ⟨its, rv, ⟨o, e, c1, n1, d1⟩, _⟩ := I.tuple (k 0 a kv rfl rfl)
   cases rv with
   | cons ra rt =>
     cases rt with
     | cons rb rn =>
       cases rn
       rename_i u1 u2
       refine ⟨(kv.1, u2) :: rs, .cons ⟨rfl, rb⟩ r1, by simp [r2], fun i a' e' => ?_⟩
       cases i with
       | zero =>
         cases e'
         exact ⟨_, o, n1, u1, rfl, e, c1, d1, kV_is ra⟩
       | succ i => exact r3 i a' (by simpa using e')
theorem call_dictP (hc : X.calm = true) : CallR X (.type "dict") (rDictP X.K) := by
 intro pins s σ H xs us Q I r h
 obtain ⟨p, ps, kvs, rfl, hl, le, hps, hz, q⟩ := h
 obtain ⟨u, rfl, ru⟩ := vals1 r
 cases ru
 obtain ⟨its, rv, pl, _⟩ := I.list hl
 obtain rfl := vals_refs rv
 obtain ⟨rs, r1, r2, r3⟩ := pairs_vals I ps kvs le hps
 have hsz : (ps.map Value.ref).toArray.size = rs.length := by simp [r2]
 have hR : (List.range (ps.map Value.ref).toArray.size).map (fun j => (rs[j]?).getD (Sum.inl 0, Value.none)) = rs := by
   rw [hsz]
   refine List.ext_getElem? fun i => ?_
   rw [List.getElem?_map]
   by_cases hi : i < rs.length
   . rw [List.getElem?_range hi, List.getElem?_eq_getElem hi]
     simp [hi]
   . rw [List.getElem?_eq_none (by rw [List.length_range]; omega), List.getElem?_eq_none (by omega)]
     rfl
 refine call_dict_pairs (knd := mixKind X.prog X.w) (kv := fun j => (rs[j]?).getD (Sum.inl 0, Value.none)) pl (fun j v hj => ?_) (by rw [hsz, r2, le]; exact hz) (I.ok.hd hc) fun h' tk dd kp => ?_
 . have hj' : (ps.map Value.ref)[j]? = some v := by simpa using hj
   rw [List.getElem?_map] at hj'
   cases e : ps[j]? with
   | none => rw [e] at hj'; cases hj'
   | some a =>
     rw [e] at hj'
     obtain ⟨kv, o, c, key, f1, f2, f3, f4, f5⟩ := r3 j a e
     refine ⟨a, o, c, key, (Option.some.inj hj').symm, f2, f3, ?_, ?_⟩
     . show o.data = .seq #[key, ((rs[j]?).getD (Sum.inl 0, Value.none)).2] c
       rw [f1]
       exact f4
     . show (mixKind X.prog X.w).is ((rs[j]?).getD (Sum.inl 0, Value.none)).1 key = true
       rw [f1]
       exact f5
 . rw [hR] at dd
   have hn := I.hok.fresh (Nat.le_refl s.heap.objs.size)
   have big : (s.heap.objs.size == sysModules) = false := beq_eq_false_iff_ne.mpr (Ne.symm (Nat.ne_of_lt I.big))
   have hlen : (mergeK [] kvs).length <= sizeLine := by
     have := qcv kvs []
     rw [List.length_nil] at this
     rw [sizeLine_eq]
     omega
   exact ⟨.ref s.heap.objs.size, _, I.laid (a := s.heap.objs.size) (o := .dK (mergeK [] kvs)) (h' := h') (t' := tk) kp (Nat.le_refl _) (dk_new hlen big (r1.merge .nil) dd), rfl, q _ hn⟩
end
end L2
set_option Elab.async false
set_option linter.all false
set_option maxRecDepth 100000
set_option maxHeartbeats 4000000
namespace L2
open PySem PySem.Spec PySem.W PyProof.Rows
theorem nd_inj {α : Type} {l : List α} (nd : l.Nodup) {i j : Nat} {hi : i < l.length} {hj : j < l.length} (e : l[i] = l[j]) : i = j := by
 have h := List.pairwise_iff_getElem.mp nd
 rcases Nat.lt_trichotomy i j with c | c | c
 . exact absurd e (h i j hi hj c)
 . exact c
 . exact absurd e.symm (h j i hj hi c)
section
variable {α β : Type} {lt : Nat -> Nat -> Bool} {n : Nat}
def evT (lt : Nat -> Nat -> Bool) : KasT α -> α
 | .ret a => a
 | .ask i j k => evT lt (k (lt i j))
end
def ltS (zs : List Str) (i j : Nat) : Bool := decide ((zs.getD i "").cps.toList < (zs.getD j "").cps.toList)
def srt (zs : List Str) : List Nat := if zs.length < 2 then List.range zs.length else (evT (ltS zs) (kas_sort zs.length)).toList
section
variable {P : Program} {w : World} {B : Around} {F : Value -> Shared -> Prop} {z : Shared}
end
section
variable {X : Cx} {o : Expr} {td : TE} {p1 p2 pos1 pos2 ap cp : Pos}
end
section
variable {X : Cx}
def rAddL (K : PySem.W.Frag) : R2 := fun x y H Q => ∃ a b xs ys, x = .ref a /\ y = .ref b /\ SqL K H a xs /\ SqL K H b ys /\ xs.length + ys.length <= sizeLine /\ ∀ l, H l = none -> Q (.ref l) (upd H l (.lst (xs ++ ys)))
theorem Paired.app {α β : Type} {G : α -> β -> Prop} : ∀ {l m : List α} {l' m' : List β}, Paired G l l' -> Paired G m m' -> Paired G (l ++ m) (l' ++ m')
 | _, _, _, _, .nil, h => h
 | _, _, _, _, .cons a r, h => .cons a (Paired.app r h)
theorem op_addL : OpR X (binaryOp .Add) (rAddL X.K) := by
 intro pins s σ H x y v u Q I rx ry h
 obtain ⟨a, b, xs, ys, rfl, rfl, ha, hb, hz, q⟩ := h
 cases rx
 cases ry
 obtain ⟨its, rv, pl, _⟩ := I.list ha
 obtain ⟨its2, rv2, pl2, _⟩ := I.list hb
 have l1 := rv.length
 have l2 := rv2.length
 obtain ⟨⟨cls, dd, data, sl⟩, ho, hc, n, hd⟩ := id pl.isList
 obtain ⟨⟨cls2, dd2, data2, sl2⟩, ho2, hc2, n2, hd2⟩ := id pl2.isList
 simp only at hc hd hc2 hd2
 subst hc hd hc2 hd2
 have e : its.toArray ++ its2.toArray = (its ++ its2).toArray := by simp
 refine concat_meets ⟨_, ho, rfl⟩ ⟨_, ho2, rfl⟩ noFill_list_add seq_list_add PySem.F.slot_list_add PySem.F.entry_list_add (PySem.F.args_list_add_2 _ _) (list_addW a b its.toArray its2.toArray n n2 dd dd2 sl sl2 (by simp only [List.size_toArray]; omega)) ⟨ho, ho2, ?_⟩
 rw [e]
 exact ⟨.ref s.heap.objs.size, _, I.laid (t' := s.toks) (o := .lst (xs ++ ys)) (fun b u h => Heap.get?_push_of_some _ h) (Nat.le_refl _) ⟨by rw [List.length_append]; exact hz, its ++ its2, _, Paired.app rv rv2, Heap.get?_push_size _ rfl⟩, rfl, q _ (I.hok.fresh (Nat.le_refl _))⟩
end
end L2
set_option Elab.async false
set_option linter.all false
set_option maxRecDepth 100000
set_option maxHeartbeats 4000000
namespace L2
open PySem PySem.Spec PySem.W PyProof.Rows
section
variable {X : Cx}
def rNeLN (K : PySem.W.Frag) : R2 := fun x y H Q => ∃ (a b : Addr) (xs : List V), x = .ref a /\ y = .ref b /\ SqL K H a xs /\ SqL K H b [] /\ Q (.bl (!xs.isEmpty)) H
theorem op_neLN (hu : X.A.units < cLine) : OpR X (compareOp .NotEq) (rNeLN X.K) := by
 intro pins s σ H x y v u Q I rx ry h
 obtain ⟨a, b, xs, rfl, rfl, ha, hb, q⟩ := h
 cases rx
 cases ry
 obtain ⟨its, rv, pl, _⟩ := I.list ha
 obtain ⟨its2, rv2, pl2, _⟩ := I.list hb
 have l2 : its2 = [] := List.eq_nil_of_length_eq_zero rv2.length.symm
 subst l2
 cases xs with
 | nil =>
   have l1 : its = [] := List.eq_nil_of_length_eq_zero rv.length.symm
   subst l1
   exact EqBoolInt.of_rcne (SeqAt.RcNeAt.lists (e := fun _ => true) pl.isList pl2.isList rfl hu fun j h1 h2 => absurd h1 (Nat.not_lt_zero j)) ⟨.bl _, H, I, rfl, q⟩
 | cons x xs =>
   cases its with
   | nil => cases rv
   | cons u' us' => exact EqBoolInt.of_rcne (SeqAt.RcNeAt.lists_lengths pl.isList pl2.isList (by simp) hu) ⟨.bl true, H, I, rfl, q⟩
end
end L2
set_option Elab.async false
set_option linter.all false
set_option maxRecDepth 100000
set_option maxHeartbeats 4000000
namespace L2
open PySem PySem.Spec PySem.W PyProof.Rows
section
variable {P : Program} {w : World} {B : Around} {F : Value -> Shared -> Prop} {z : Shared}
end
section
variable {X : Cx}
end
end L2
set_option Elab.async false
set_option linter.all false
set_option maxRecDepth 100000
set_option maxHeartbeats 4000000
namespace L2
open PySem PySem.Spec PySem.W PyProof.Rows
section
variable {prog : Program} {w : World} {A : Around} {R : Result -> Shared -> Prop} {I : Addr} {fp wr : List Addr} {G : Array GenState -> Array GenState -> Prop} {n : Nat} {P : Nat -> Value -> Prop} {St : Nat -> Shared -> Prop}
end
section
variable {prog : Program} {w : World} {A : Around} {E : Value -> Shared -> Prop} {s : Shared}
end
section
variable {X : Cx} {e : Expr} {te : TE} {p1 p2 pos1 pos2 : Pos}
end
end L2
set_option Elab.async false
set_option linter.all false
set_option maxRecDepth 100000
set_option maxHeartbeats 4000000
namespace L2
open PySem PyProof.Rows
theorem blk_fm {α : Type} {K : PySem.W.Frag} {a D : Addr} {xs : List α} {enc : α -> V} {out : α -> Option V} {rest : St} {H : Hp} {tt : TT} {te : TE} {Q : Hp -> Prop} (hD : H D = none) (ha : H a = some (.lst (xs.map enc))) (len : xs.length < sizeLine)
   (ht : ∀ x ∈ xs, ∀ G, Same H G -> ∀ R : Bool -> Hp -> Prop, (∀ G', Same G G' -> R (out x).isSome G') -> tt (some (enc x) :: rest) G R)
   (he : ∀ x ∈ xs, ∀ v, out x = some v -> ∀ G, Same H G -> ∀ R : V -> Hp -> Prop, (∀ G', Same G G' -> R v G') -> te (some (enc x) :: rest) G R)
   (k : ∀ G, Same H G -> G D = some (.lst (xs.filterMap out)) -> Q G) : tBlk (Itl K a) (gName 0) tt te D (none :: rest) H Q := by
 have sD : Same H (upd H D (.lst [])) := fun b o h => by
   rw [qah (fun e => by rw [e, hD] at h; cases h)]
   exact h
 refine qbk (K := K) (a := a) (xs := xs.map enc) (fun i σ' G => (∃ v0, σ' = v0 :: rest) /\ Same H G /\ G D = some (.lst ((xs.take i).filterMap out))) ⟨⟨none, rfl⟩, sD, qab⟩ (fun i σ' G _ ⟨_, s, _⟩ => .of (s _ _ ha)) ?_ ?_
 . rintro i y σ' G hy ⟨⟨v0, rfl⟩, s, hG⟩
   rw [List.getElem?_map] at hy
   cases ex : xs[i]? with
   | none => rw [ex] at hy; cases hy
   | some x =>
     rw [ex] at hy
     obtain rfl := (Option.some.inj hy).symm
     have hx : x ∈ xs := List.mem_of_getElem? ex
     have et : (xs.take (i + 1)).filterMap out = (xs.take i).filterMap out ++ (out x).toList := by
       rw [List.take_add_one, ex, List.filterMap_append]
       cases c : out x <;> simp [c]
     show tt (some (enc x) :: rest) G _
     refine ht x hx G s _ fun G1 s1 => ?_
     cases c : out x with
     | none =>
       show if false = true then _ else _
       rw [if_neg Bool.false_ne_true]
       refine ⟨⟨_, rfl⟩, fun b o h => s1 _ _ (s _ _ h), ?_⟩
       rw [et, c]
       simpa using s1 _ _ hG
     | some v =>
       show if true = true then _ else _
       rw [if_pos rfl]
       refine he x hx v c G1 (fun b o h => s1 _ _ (s _ _ h)) _ fun G2 s2 => ?_
       refine ⟨_, s2 _ _ (s1 _ _ hG), ?_, ⟨_, rfl⟩, ?_, ?_⟩
       . refine Nat.lt_of_le_of_lt (List.length_filterMap_le _ _) ?_
         rw [List.length_take]
         omega
       . intro b o h
         rw [qah (fun e => by rw [e, hD] at h; cases h)]
         exact s2 _ _ (s1 _ _ (s _ _ h))
       . rw [et, c]
         exact qab
 . rintro σ' G ⟨_, s, hG⟩
   rw [List.length_map, List.take_of_length_le (Nat.le_refl _)] at hG
   exact k G s hG
theorem blk_fmT {α : Type} {K : PySem.W.Frag} {a D : Addr} {xs : List α} {enc : α -> V} {out : α -> Option V} {rest : St} {H : Hp} {tt : TT} {te : TE} {Q : Hp -> Prop} (hD : H D = none) (ha : H a = some (.tup (xs.map enc))) (len : xs.length < sizeLine)
   (ht : ∀ x ∈ xs, ∀ G, Same H G -> ∀ R : Bool -> Hp -> Prop, (∀ G', Same G G' -> R (out x).isSome G') -> tt (some (enc x) :: rest) G R)
   (he : ∀ x ∈ xs, ∀ v, out x = some v -> ∀ G, Same H G -> ∀ R : V -> Hp -> Prop, (∀ G', Same G G' -> R v G') -> te (some (enc x) :: rest) G R)
   (k : ∀ G, Same H G -> G D = some (.lst (xs.filterMap out)) -> Q G) : tBlk (Itt K a) (gName 0) tt te D (none :: rest) H Q := by
 have sD : Same H (upd H D (.lst [])) := fun b o h => by
   rw [qah (fun e => by rw [e, hD] at h; cases h)]
   exact h
 refine blk_tup (K := K) (a := a) (xs := xs.map enc) (fun i σ' G => (∃ v0, σ' = v0 :: rest) /\ Same H G /\ G D = some (.lst ((xs.take i).filterMap out))) ⟨⟨none, rfl⟩, sD, qab⟩ (fun i σ' G _ ⟨_, s, _⟩ => .of (s _ _ ha)) ?_ ?_
 . rintro i y σ' G hy ⟨⟨v0, rfl⟩, s, hG⟩
   rw [List.getElem?_map] at hy
   cases ex : xs[i]? with
   | none => rw [ex] at hy; cases hy
   | some x =>
     rw [ex] at hy
     obtain rfl := (Option.some.inj hy).symm
     have hx : x ∈ xs := List.mem_of_getElem? ex
     have et : (xs.take (i + 1)).filterMap out = (xs.take i).filterMap out ++ (out x).toList := by
       rw [List.take_add_one, ex, List.filterMap_append]
       cases c : out x <;> simp [c]
     show tt (some (enc x) :: rest) G _
     refine ht x hx G s _ fun G1 s1 => ?_
     cases c : out x with
     | none =>
       show if false = true then _ else _
       rw [if_neg Bool.false_ne_true]
       refine ⟨⟨_, rfl⟩, fun b o h => s1 _ _ (s _ _ h), ?_⟩
       rw [et, c]
       simpa using s1 _ _ hG
     | some v =>
       show if true = true then _ else _
       rw [if_pos rfl]
       refine he x hx v c G1 (fun b o h => s1 _ _ (s _ _ h)) _ fun G2 s2 => ?_
       refine ⟨_, s2 _ _ (s1 _ _ hG), ?_, ⟨_, rfl⟩, ?_, ?_⟩
       . refine Nat.lt_of_le_of_lt (List.length_filterMap_le _ _) ?_
         rw [List.length_take]
         omega
       . intro b o h
         rw [qah (fun e => by rw [e, hD] at h; cases h)]
         exact s2 _ _ (s1 _ _ (s _ _ h))
       . rw [et, c]
         exact qab
 . rintro σ' G ⟨_, s, hG⟩
   rw [List.length_map, List.take_of_length_le (Nat.le_refl _)] at hG
   exact k G s hG
theorem blk_fmR {n : Nat} {D : Addr} {out : Nat -> Option V} {rest : St} {H : Hp} {tt : TT} {te : TE} {Q : Hp -> Prop} (hD : H D = none) (len : n < sizeLine)
   (ht : ∀ x, x < n -> ∀ G, Same H G -> ∀ R : Bool -> Hp -> Prop, (∀ G', Same G G' -> R (out x).isSome G') -> tt (some (.int (x : Int)) :: rest) G R)
   (he : ∀ x, x < n -> ∀ v, out x = some v -> ∀ G, Same H G -> ∀ R : V -> Hp -> Prop, (∀ G', Same G G' -> R v G') -> te (some (.int (x : Int)) :: rest) G R)
   (k : ∀ G, Same H G -> G D = some (.lst ((List.range n).filterMap out)) -> Q G) : tBlk (Itr 0 n) (gName 0) tt te D (none :: rest) H Q := by
 have sD : Same H (upd H D (.lst [])) := fun b o h => by
   rw [qah (fun e => by rw [e, hD] at h; cases h)]
   exact h
 refine blk_range (fun i σ' G => (∃ v0, σ' = v0 :: rest) /\ Same H G /\ G D = some (.lst ((List.range i).filterMap out))) ⟨⟨none, rfl⟩, sD, qab⟩ ?_ ?_
 . rintro i σ' G hi ⟨⟨v0, rfl⟩, s, hG⟩
   rw [Int.zero_add]
   have et : (List.range (i + 1)).filterMap out = (List.range i).filterMap out ++ (out i).toList := by
     rw [List.range_succ, List.filterMap_append]
     cases c : out i <;> simp [c]
   show tt (some (.int (i : Int)) :: rest) G _
   refine ht i hi G s _ fun G1 s1 => ?_
   cases c : out i with
   | none =>
     show if false = true then _ else _
     rw [if_neg Bool.false_ne_true]
     refine ⟨⟨_, rfl⟩, fun b o h => s1 _ _ (s _ _ h), ?_⟩
     rw [et, c]
     simpa using s1 _ _ hG
   | some v =>
     show if true = true then _ else _
     rw [if_pos rfl]
     refine he i hi v c G1 (fun b o h => s1 _ _ (s _ _ h)) _ fun G2 s2 => ?_
     refine ⟨_, s2 _ _ (s1 _ _ hG), ?_, ⟨_, rfl⟩, ?_, ?_⟩
     . refine Nat.lt_of_le_of_lt (List.length_filterMap_le _ _) ?_
       rw [List.length_range]
       omega
     . intro b o h
       rw [qah (fun e => by rw [e, hD] at h; cases h)]
       exact s2 _ _ (s1 _ _ (s _ _ h))
     . rw [et, c]
       exact qab
 . rintro σ' G ⟨_, s, hG⟩
   exact k G s hG
end L2
set_option Elab.async false
set_option linter.all false
set_option maxRecDepth 100000
set_option maxHeartbeats 4000000
namespace L2
open PySem PyProof.Rows
section
variable {prog : Program} {w : World} {KK : Type} [DecidableEq KK] {kd : HeapKind prog w KK} {A : Around} {E : Value -> Shared -> Prop} {s : Shared}
end
section
variable {X : Cx} {pins : List (Addr × Obj)} {σ : St} {H : Hp} {s : Shared} {a b : Addr} {v : V} {r : Value} {A : Around} {E : Value -> Shared -> Prop}
end
section
variable {X : Cx} {o e f : Expr} {apos cpos : Pos} {td ty tx : TE}
end
end L2
set_option Elab.async false
set_option linter.all false
set_option maxRecDepth 100000
set_option maxHeartbeats 4000000
namespace L2
open PySem PyProof.Rows
section
variable {X : Cx}
end
end L2
set_option Elab.async false
set_option linter.all false
set_option maxRecDepth 100000
set_option maxHeartbeats 4000000
namespace L2
open PySem PySem.Spec PyProof.Rows
section
variable {X : Cx} {pins : List (Addr × Obj)} {σ : St} {H : Hp} {s : Shared} {tg : Expr}
def epOf (o : Obj) : Nat := match o.data with
 | .dict _ ep => ep
 | _ => 0
theorem Inv.freeze {a : Addr} {kvs : List (Key × V)} (I : Inv X pins σ H s) (e : H a = some (.dK kvs)) : ∃ o, Inv X pins σ (upd H a (.frz o (.dK kvs))) s := by
 obtain ⟨z, hd, vs, rel, o, es, ep, ho, r⟩ := (show ObjOk X.prog X.w H s.heap a (.dK kvs) from I.hok a _ e)
 have mu : Mut (H a) := by rw [e]; exact True.intro
 have un : Un X.fs [] H (upd H a (.frz o (.dK kvs))) s.heap s.heap := Un.write mu (.inl rfl) (fun b u _ q => q) ⟨o, ho⟩
 have ok : HOk X.prog X.w (upd H a (.frz o (.dK kvs))) s.heap := I.hok.write mu (.inl rfl) (fun b u _ q => q) ⟨o, ho⟩ ⟨ho, z, hd, vs, rel, o, es, ep, ho, r⟩
 exact ⟨o, I.un (t' := s.toks) un ok⟩
def tFrz (te : TE) : TE := fun σ H Q => te σ H fun x H1 => ∃ a kvs, x = .ref a /\ H1 a = some (.dK kvs) /\ ∀ o, Q x (upd H1 a (.frz o (.dK kvs)))
theorem je_frz {e : Expr} {te : TE} (h : JE X e te) : JE X e (tFrz te) := .of (by
 have h := h.to
 intro pins s σ H Q I hw
 refine thn (h pins s σ H _ I hw) fun v s1 ⟨x, H1, I1, r1, a, kvs, ex, ea, q⟩ => ?_
 obtain ⟨o, I2⟩ := I1.freeze ea
 exact ⟨x, _, I2, r1, q o⟩)
def Itk (a : Addr) (o : Obj) (kvs : List (Key × V)) (zs : List Str) : It :=
 ⟨fun i H => H a = some (.frz o (.dK kvs)) /\ i < zs.length, fun i H x H' => H' = H /\ ∃ z, zs[i]? = some z /\ x = .str z, fun i H => H a = some (.frz o (.dK kvs)) /\ i = zs.length⟩
theorem frz_at {P : Program} {w : World} {h : Heap} {a : Addr} {o : Obj} {kvs : List (Key × V)} (ok : HOk P w H h) (e : H a = some (.frz o (.dK kvs))) : (a == sysModules) = false /\ ∃ vs, KV kvs vs /\ h.DictAt (mixKind P w) a vs (epOf o) := by
 obtain ⟨ho, z, hd, vs, rel, o', es, ep, ho', ex, dat, r⟩ := (show ObjOk P w H h a (.frz o (.dK kvs)) from ok a _ e)
 rw [ho] at ho'
 cases ho'
 refine ⟨hd, vs, rel, o, es, ho, ex, ?_, r⟩
 unfold epOf
 rw [dat]
theorem key_str {P : Program} {w : World} {kvs : List (Key × V)} {vs : List (Key × Value)} {zs : List Str} (rel : KV kvs vs) (ek : kvs.map (·.1) = zs.map Sum.inr) {i : Nat} {z : Str} {k : Key} {y v : Value} (ez : zs[i]? = some z) (f1 : vs[i]? = some (k, y)) (f2 : (mixKind P w).is k v = true) : RelV (.str z) v := by
 have hi : i < kvs.length := by
   have h1 := (List.getElem?_eq_some_iff.mp ez).1
   have h2 : kvs.length = zs.length := by simpa using congrArg List.length ek
   omega
 obtain ⟨q', g1, g2, _⟩ := paired_get rel (List.getElem?_eq_getElem hi)
 rw [f1] at g1
 cases g1
 have h1 : (kvs.map (·.1))[i]? = some kvs[i].1 := by rw [List.getElem?_map, List.getElem?_eq_getElem hi]; rfl
 rw [ek, List.getElem?_map, ez] at h1
 have e3 : k = Sum.inr z := g2.symm.trans (Option.some.inj h1).symm
 subst e3
 rcases qbc (show keyIs (Sum.inr z) v = true from f2) with ⟨_, _, c, _⟩ | ⟨w', t, c, rfl⟩
 . cases c
 . cases c
   exact ⟨t, rfl⟩
theorem turn_dict {P : Program} {w : World} {K : PySem.W.Frag} (a it : Addr) (o : Obj) (kvs : List (Key × V)) (zs : List Str) (ek : kvs.map (·.1) = zs.map Sum.inr) : Turn P w K tg (Itk a o kvs zs) [it] it (fun i h => h.IsKeyIter it a i zs.length (epOf o)) where
 mem := by simp
 obj := fun i h st b hb => by
   have e : b = it := by simpa using hb
   subst e
   obtain ⟨o, e, c, d⟩ := st
   exact ⟨o, e, fun v z => by rw [d] at z; cases z⟩
 keep := fun i h h' st k => let ⟨o, e, r⟩ := st; ⟨o, k it (by simp) o e, r⟩
 item := by
   intro X hP hw hK hc i pins s σ H E I hf st hg
   subst hP hw hK
   obtain ⟨f0, f1, f2, f3, f4, f5⟩ := hf it (by simp)
   obtain ⟨ea, hi⟩ := hg
   obtain ⟨_, vs, rel, dat⟩ := frz_at I.hok ea
   have lv : vs.length = zs.length := by
     have h1 : kvs.length = zs.length := by simpa using congrArg List.length ek
     rw [← Paired.length rel, h1]
   have ne : a ≠ it := fun e => by rw [e, f0] at ea; cases ea
   rw [← lv] at st
   refine (Walks.dictKeys (I.ok.hd hc) it a ne vs (epOf o)).item i s _ _ (by omega) ⟨st, dat⟩ fun v h' tk hv st' kk => ?_
   have I1 : Inv X pins σ H { s with heap := h', toks := tk } := I.turned (fun b o hb e => kk b o (by simpa using hb) e) f0 f1 f3 f4 f5
   obtain ⟨k, y, g1, g2⟩ := hv
   obtain ⟨o2, e2, c2, d2⟩ := id st'.1
   refine ⟨_, rfl, go_of (s := { s with heap := h', toks := tk }) e2 c2 d2 (by decide) ⟨.str zs[i], H, I1, key_str rel ek (List.getElem?_eq_getElem hi) g1 g2, ⟨rfl, _, List.getElem?_eq_getElem hi, rfl⟩, ?_, fun b hb => (hf b hb).1⟩⟩
   rw [← lv]
   exact st'.1
 done := by
   intro X hP hw hK hc i pins s σ H E I hf st hg
   subst hP hw hK
   obtain ⟨f0, f1, f2, f3, f4, f5⟩ := hf it (by simp)
   obtain ⟨ea, hi⟩ := hg
   obtain ⟨_, vs, rel, dat⟩ := frz_at I.hok ea
   have lv : vs.length = zs.length := by
     have h1 : kvs.length = zs.length := by simpa using congrArg List.length ek
     rw [← Paired.length rel, h1]
   have ne : a ≠ it := fun e => by rw [e, f0] at ea; cases ea
   subst hi
   rw [← lv] at st
   exact (Walks.dictKeys (I.ok.hd hc) it a ne vs (epOf o)).done s _ _ ⟨st, dat⟩ fun h' tk kk => ⟨rfl, I.turned (fun b o hb e => kk b o (by simpa using hb) e) f0 f1 f3 f4 f5⟩
 self := fun _ _ _ _ _ st h => wpAny_pyIter_keyiter st h
def iDct (tl : TE) : TI := fun σ H R => tl σ H fun x H1 => ∃ a o kvs zs, x = .ref a /\ H1 a = some (.frz o (.dK kvs)) /\ kvs.map (·.1) = zs.map Sum.inr /\ R (Itk a o kvs zs) H1
theorem ji_dct {l : Expr} {tl : TE} (hl : JE X l tl) : JI X tg l (iDct tl) := .of (by
 have hl := hl.to
 intro pins s σ H R I h
 refine thn (hl pins s σ H _ I h) fun v s1 ⟨x, H1, I1, r1, q1⟩ => ?_
 obtain ⟨a, o, kvs, zs, e, ea, ek, q⟩ := q1
 subst e
 cases r1
 obtain ⟨hd, vs, rel, dat⟩ := frz_at I1.hok ea
 have lv : vs.length = zs.length := by
   have h1 : kvs.length = zs.length := by simpa using congrArg List.length ek
   rw [← Paired.length rel, h1]
 refine wpAny_pyIter_dict hd dat ?_
 refine ⟨s1.heap.objs.size, [s1.heap.objs.size], _, _, H1, rfl, I1.kept (t' := s1.toks) fun b o e => Heap.get?_push_of_some _ e, turn_dict a _ o kvs zs ek, ?_, fun b hb => ?_, q⟩
 . rw [← lv]
   exact ⟨_, Heap.get?_push_size _ rfl, rfl, rfl⟩
 . have e : b = s1.heap.objs.size := by simpa using hb
   subst e
   exact I1.fpOk (Nat.le_refl _) (I1.hok.fresh (Nat.le_refl _)))
end
section
variable {a : Addr} {o : Obj} {kvs : List (Key × V)} {zs : List Str} {g : TG} {σ : St} {H : Hp}
theorem for_dct {tb : TS} {D : Ends} (Pv : Nat -> St -> Hp -> Prop) (h0 : Pv 0 σ H) (hl : ∀ i σ H, i <= zs.length -> Pv i σ H -> H a = some (.frz o (.dK kvs)))
   (hs : ∀ i z σ H, zs[i]? = some z -> Pv i σ H -> g (.str z) σ H fun σ2 H2 => tb { D with nx := Pv (i + 1), ct := Pv (i + 1), bk := D.nx } σ2 H2) (hd : ∀ σ H, Pv zs.length σ H -> D.nx σ H) :
   ∃ W : Nat -> Nat -> St -> Hp -> Prop, (∃ m, W 0 m σ H) /\ ∀ i m σ H, W i m σ H →
     ((Itk a o kvs zs).stop i H /\ D.nx σ H) ∨ ((Itk a o kvs zs).go i H /\ ∃ N : St -> Hp -> Prop, (∀ σ' H', N σ' H' -> ∃ m', m' < m /\ W (i + 1) m' σ' H') /\ ∀ x H', (Itk a o kvs zs).yld i H x H' -> g x σ H' fun σ2 H2 => tb { D with nx := N, ct := N, bk := D.nx } σ2 H2) := by
 refine ⟨fun i m σ H => m = zs.length - i /\ i <= zs.length /\ Pv i σ H, ⟨zs.length, by simp, Nat.zero_le _, h0⟩, ?_⟩
 rintro i m σ H ⟨rfl, hi, p⟩
 have q := hl i σ H hi p
 by_cases hlt : i < zs.length
 . refine .inr ⟨⟨q, hlt⟩, Pv (i + 1), fun σ' H' p' => ⟨zs.length - (i + 1), by omega, rfl, hlt, p'⟩, fun x H' y => ?_⟩
   obtain ⟨e, z, ez, rfl⟩ := y
   subst e
   exact hs i z σ _ ez p
 . have e : i = zs.length := by omega
   subst e
   exact .inl ⟨⟨q, rfl⟩, hd σ H p⟩
theorem blk_dct {tt : TT} {te : TE} {D : Addr} {Q : Hp -> Prop} (Pv : Nat -> St -> Hp -> Prop) (h0 : Pv 0 σ (upd H D (.lst []))) (hl : ∀ i σ' H', i <= zs.length -> Pv i σ' H' -> H' a = some (.frz o (.dK kvs)))
   (hs : ∀ i z σ' H', zs[i]? = some z -> Pv i σ' H' -> g (.str z) σ' H' (bTurn tt te D (Pv (i + 1)))) (hd : ∀ σ' H', Pv zs.length σ' H' -> Q H') : tBlk (Itk a o kvs zs) g tt te D σ H Q :=
 blk_of (n := zs.length) Pv h0 (fun i σ' H' hi p => ⟨⟨hl i σ' H' (Nat.le_of_lt hi) p, hi⟩, fun x H2 y => by
   obtain ⟨e, z, ez, rfl⟩ := y
   subst e
   exact hs i z σ' _ ez p⟩) fun σ' H' p => ⟨⟨hl _ σ' H' (Nat.le_refl _) p, rfl⟩, hd σ' H' p⟩
end
end L2
namespace Rb
def xorAll (ns : List Nat) : Nat := ns.foldl (· ^^^ ·) 0
def setN (ns : List Nat) : Nat := ns.foldl (fun b n => b ||| 2 ^ n) 0
def memN (b n : Nat) : List Nat := (List.range n).filter fun i => b.testBit i
def Lacks (r : Nat) (ns : List Nat) : Prop := r ∉ ns /\ ∀ x, x < r -> x ∈ ns
theorem mod2 (x : Nat) : x % 2 = (x.testBit 0).toNat := by
 rw [Nat.testBit_zero]
 rcases Nat.mod_two_eq_zero_or_one x with h | h <;> simp [h]
theorem or_and_xor (a : Nat) : ∀ b, (a ||| b) = (a &&& b) + (a ^^^ b) := by
 induction a using Nat.strongRecOn with
 | ind a ih =>
   intro b
   by_cases ha : a = 0
   . subst ha; simp
   . have i := ih (a / 2) (by omega) (b / 2)
     have o1 : (a ||| b) / 2 = (a / 2) ||| (b / 2) := Nat.or_div_two
     have n1 : (a &&& b) / 2 = (a / 2) &&& (b / 2) := Nat.and_div_two
     have x1 : (a ^^^ b) / 2 = (a / 2) ^^^ (b / 2) := Nat.xor_div_two
     have m : (a ||| b) % 2 = (a &&& b) % 2 + (a ^^^ b) % 2 := by
       rw [mod2 (a ||| b), mod2 (a &&& b), mod2 (a ^^^ b), Nat.testBit_or, Nat.testBit_and, Nat.testBit_xor]
       cases a.testBit 0 <;> cases b.testBit 0 <;> rfl
     omega
theorem foldl_or (ns : List Nat) : ∀ b k, (ns.foldl (fun b n => b ||| 2 ^ n) b).testBit k = (b.testBit k || decide (k ∈ ns)) := by
 induction ns with
 | nil => intro b k; simp
 | cons n ns ih =>
   intro b k
   rw [List.foldl_cons, ih, Nat.testBit_or, Nat.testBit_two_pow]
   by_cases h : n = k
   . subst h; simp
   . have h' : ¬ k = n := fun e => h e.symm
     simp [h, h']
theorem testBit_setN (ns : List Nat) (k : Nat) : (setN ns).testBit k = decide (k ∈ ns) := by
 unfold setN
 rw [foldl_or]
 simp
theorem mem_memN {b n i : Nat} : i ∈ memN b n ↔ i < n /\ b.testBit i = true := by
 unfold memN
 simp
theorem testBit_big {b k m : Nat} (h : b < 2 ^ m) (hk : m <= k) : b.testBit k = false := Nat.testBit_lt_two_pow (Nat.lt_of_lt_of_le h (Nat.pow_le_pow_right (by decide) hk))
theorem memN_more {b m : Nat} (h : b < 2 ^ m) : ∀ n, m <= n -> memN b n = memN b m := by
 intro n hn
 obtain ⟨k, rfl⟩ := Nat.le.dest hn
 unfold memN
 rw [List.range_add, List.filter_append]
 have e : ((List.range k).map (m + ·)).filter (fun i => b.testBit i) = [] := by
   rw [List.filter_eq_nil_iff]
   intro i hi
   obtain ⟨j, _, rfl⟩ := List.mem_map.mp hi
   rw [testBit_big h (Nat.le_add_right _ _)]
   simp
 rw [e, List.append_nil]
theorem memN_same {b m n : Nat} (hm : b < 2 ^ m) (hn : b < 2 ^ n) : memN b n = memN b m := by
 by_cases h : m <= n
 . exact memN_more hm n h
 . exact (memN_more hn m (by omega)).symm
theorem setN_lt {ns : List Nat} {m : Nat} (h : ∀ x ∈ ns, x < m) : setN ns < 2 ^ m := by
 refine Nat.lt_pow_two_of_testBit _ fun i hi => ?_
 rw [testBit_setN]
 refine decide_eq_false fun z => ?_
 have := h i z
 omega
def turnN (b n m : Nat) : Nat := setN ((memN b m).map (· ^^^ n))
theorem xor_lt {a b m : Nat} (h1 : a < 2 ^ m) (h2 : b < 2 ^ m) : a ^^^ b < 2 ^ m := Nat.xor_lt_two_pow h1 h2
theorem xor_xor (a b : Nat) : (a ^^^ b) ^^^ b = a := by rw [Nat.xor_assoc, Nat.xor_self, Nat.xor_zero]
theorem turn_lt {b n m k : Nat} (hm : m <= 2 ^ k) (hn : n < 2 ^ k) : turnN b n m < 2 ^ (2 ^ k) := by
 refine setN_lt fun x hx => ?_
 obtain ⟨y, hy, rfl⟩ := List.mem_map.mp hx
 exact xor_lt (Nat.lt_of_lt_of_le (mem_memN.mp hy).1 hm) hn
theorem pigeon : ∀ (n : Nat) (ns : List Nat), (∀ x, x < n -> x ∈ ns) -> n <= ns.length := by
 intro n
 induction n with
 | zero => intro ns _; exact Nat.zero_le _
 | succ n ih =>
   intro ns h
   have hn : n ∈ ns := h n (Nat.lt_succ_self n)
   have := ih (ns.erase n) fun x hx => (List.mem_erase_of_ne (by omega)).mpr (h x (Nat.lt_succ_of_lt hx))
   rw [List.length_erase_of_mem hn] at this
   have hp : 0 < ns.length := List.length_pos_of_mem hn
   omega
theorem Lacks.uniq {r s : Nat} {ns : List Nat} (h : Lacks r ns) (g : Lacks s ns) : r = s := by
 rcases Nat.lt_trichotomy r s with z | z | z
 . exact absurd (g.2 r z) h.1
 . exact z
 . exact absurd (h.2 s z) g.1
def lackI (ns : List Nat) : Nat -> Nat
 | 0 => 0
 | i + 1 => if lackI ns i ∈ ns then lackI ns i + 1 else lackI ns i
theorem lackI_spec (ns : List Nat) : ∀ i, (∀ x, x < lackI ns i -> x ∈ ns) /\ lackI ns i <= i /\ (lackI ns i < i -> lackI ns i ∉ ns) := by
 intro i
 induction i with
 | zero => exact ⟨fun x hx => absurd hx (Nat.not_lt_zero _), Nat.le_refl _, fun h => absurd h (Nat.lt_irrefl _)⟩
 | succ i ih =>
   obtain ⟨h1, h2, h3⟩ := ih
   unfold lackI
   by_cases h : lackI ns i ∈ ns
   . rw [if_pos h]
     refine ⟨fun x hx => ?_, by omega, fun hlt => absurd h (h3 (by omega))⟩
     by_cases e : x = lackI ns i
     . rw [e]; exact h
     . exact h1 x (by omega)
   . rw [if_neg h]
     exact ⟨h1, by omega, fun _ => h⟩
theorem lackI_lacks (ns : List Nat) : Lacks (lackI ns (ns.length + 1)) ns := by
 obtain ⟨h1, h2, h3⟩ := lackI_spec ns (ns.length + 1)
 refine ⟨h3 ?_, h1⟩
 have := pigeon _ _ h1
 omega
def lackN (ns : List Nat) : Nat := lackI ns (ns.length + 1)
theorem lackN_eq {r : Nat} {ns : List Nat} (h : Lacks r ns) : r = lackN ns := h.uniq (lackI_lacks ns)
theorem memN_succ (b i : Nat) : memN b (i + 1) = memN b i ++ (if b.testBit i then [i] else []) := by
 unfold memN
 rw [List.range_succ, List.filter_append]
 congr 1
 by_cases h : b.testBit i = true
 . simp [h]
 . simp [h]
theorem testBit_div (b i : Nat) : b.testBit i = decide (b / 2 ^ i % 2 = 1) := by
 rw [Nat.testBit_eq_decide_div_mod_eq]
theorem xorAll_snoc (ns : List Nat) (n : Nat) : xorAll (ns ++ [n]) = xorAll ns ^^^ n := by unfold xorAll; rw [List.foldl_append]; rfl
theorem setN_snoc (ns : List Nat) (n : Nat) : setN (ns ++ [n]) = setN ns ||| 2 ^ n := by unfold setN; rw [List.foldl_append]; rfl
end Rb
namespace Rb
theorem qbz {b n k : Nat} (hn : n < 16) : (turnN b n 16).testBit k = (decide (k < 16) && b.testBit (k ^^^ n)) := by
 unfold turnN
 rw [testBit_setN, Bool.eq_iff_iff, decide_eq_true_iff, Bool.and_eq_true, decide_eq_true_iff, List.mem_map]
 constructor
 . rintro ⟨y, hy, rfl⟩
   obtain ⟨h1, h2⟩ := mem_memN.mp hy
   exact ⟨xor_lt (m := 4) h1 hn, by rw [xor_xor]; exact h2⟩
 . rintro ⟨h1, h2⟩
   exact ⟨k ^^^ n, mem_memN.mpr ⟨xor_lt (m := 4) h1 hn, h2⟩, xor_xor k n⟩
theorem turn_comp {b x y : Nat} (hx : x < 16) (hy : y < 16) : turnN (turnN b x 16) y 16 = turnN b (x ^^^ y) 16 := by
 refine Nat.eq_of_testBit_eq fun k => ?_
 have hxy : x ^^^ y < 16 := xor_lt (m := 4) hx hy
 rw [qbz hy, qbz hx, qbz hxy, Nat.xor_assoc, Nat.xor_comm y x]
 by_cases hk : k < 16
 . rw [decide_eq_true hk, decide_eq_true (xor_lt (m := 4) hk hy)]
   simp
 . rw [decide_eq_false hk]
   simp
theorem turn_of0 (n : Nat) : turnN 0 n 16 = 0 := by
 unfold turnN
 have e : memN 0 16 = [] := by decide
 rw [e]
 rfl
inductive W where
 | num (n : Nat)
 | edl (b : Nat)
deriving DecidableEq
def plusW : W -> W -> W
 | .num a, .num b => .num (a ^^^ b)
 | .num a, .edl b => .edl (turnN b a 16)
 | .edl b, .num a => .edl (turnN b a 16)
 | .edl _, .edl _ => .edl 0
def okW : W -> Prop
 | .num n => n < 16
 | .edl b => b < 65536
def numsW (ws : List W) : List Nat := ws.filterMap fun | .num n => some n | .edl _ => none
def setsW (ws : List W) : List Nat := ws.filterMap fun | .num _ => none | .edl b => some b
def totW (ws : List W) : W := match setsW ws with
 | [] => .num (xorAll (numsW ws))
 | [b] => .edl (turnN b (xorAll (numsW ws)) 16)
 | _ => .edl 0
theorem foldl_xor (ns : List Nat) : ∀ a, ns.foldl (· ^^^ ·) a = a ^^^ xorAll ns := by
 induction ns with
 | nil => intro a; simp [xorAll]
 | cons n ns ih =>
   intro a
   unfold xorAll
   rw [List.foldl_cons, List.foldl_cons, ih (a ^^^ n), ih (0 ^^^ n), Nat.zero_xor, Nat.xor_assoc]
theorem xorAll_cons (n : Nat) (ns : List Nat) : xorAll (n :: ns) = n ^^^ xorAll ns := by
 show ns.foldl (· ^^^ ·) (0 ^^^ n) = _
 rw [foldl_xor, Nat.zero_xor]
theorem xorAll_lt {ns : List Nat} (h : ∀ x ∈ ns, x < 16) : xorAll ns < 16 := by
 induction ns with
 | nil => decide
 | cons n ns ih =>
   rw [xorAll_cons]
   exact xor_lt (m := 4) (h n (List.mem_cons_self ..)) (ih fun x hx => h x (List.mem_cons_of_mem _ hx))
theorem nums_lt {ws : List W} (h : ∀ w ∈ ws, okW w) : ∀ x ∈ numsW ws, x < 16 := by
 intro x hx
 obtain ⟨w, hw, e⟩ := List.mem_filterMap.mp hx
 cases w with
 | num n => cases e; exact h _ hw
 | edl b => cases e
theorem nums_snoc (ws : List W) (w : W) : numsW (ws ++ [w]) = numsW ws ++ (match w with | .num n => [n] | .edl _ => []) := by
 unfold numsW
 rw [List.filterMap_append]
 cases w <;> rfl
theorem sets_snoc (ws : List W) (w : W) : setsW (ws ++ [w]) = setsW ws ++ (match w with | .num _ => [] | .edl b => [b]) := by
 unfold setsW
 rw [List.filterMap_append]
 cases w <;> rfl
theorem tot_snoc {ws : List W} {w : W} (h : ∀ w ∈ ws, okW w) (hw : okW w) : totW (ws ++ [w]) = plusW (totW ws) w := by
 have hl := xorAll_lt (nums_lt h)
 unfold totW
 rw [sets_snoc, nums_snoc]
 cases w with
 | num n =>
   simp only [List.append_nil]
   have e : xorAll (numsW ws ++ [n]) = xorAll (numsW ws) ^^^ n := xorAll_snoc _ _
   cases hs : setsW ws with
   | nil => simp only [e]; rfl
   | cons b r =>
     cases r with
     | nil =>
       simp only [e]
       show W.edl _ = W.edl _
       rw [turn_comp hl hw]
     | cons c r =>
       show W.edl 0 = W.edl _
       rw [turn_of0]
 | edl b =>
   simp only [List.append_nil]
   cases hs : setsW ws with
   | nil => rfl
   | cons c r =>
     cases r with
     | nil => rfl
     | cons c2 r => rfl
theorem tot_ok {ws : List W} (h : ∀ w ∈ ws, okW w) : okW (totW ws) := by
 have hl := xorAll_lt (nums_lt h)
 unfold totW
 split
 . exact hl
 . exact turn_lt (k := 4) (Nat.le_refl _) hl
 . show 0 < 65536; decide
theorem fold_tot {ws : List W} (h : ∀ w ∈ ws, okW w) : ∀ i, i <= ws.length -> (ws.take i).foldl plusW (.num 0) = totW (ws.take i) := by
 intro i
 induction i with
 | zero => intro _; rfl
 | succ i ih =>
   intro hi
   have hlt : i < ws.length := hi
   have e : ws.take (i + 1) = ws.take i ++ [ws[i]] := by rw [List.take_add_one, List.getElem?_eq_getElem hlt]; rfl
   rw [e, List.foldl_append, ih (Nat.le_of_lt hlt), tot_snoc (fun w hw => h w (List.mem_of_mem_take hw)) (h _ (List.getElem_mem hlt))]
   rfl
theorem fold_all {ws : List W} (h : ∀ w ∈ ws, okW w) : ws.foldl plusW (.num 0) = totW ws := by
 have := fold_tot h ws.length (Nat.le_refl _)
 rw [List.take_of_length_le (Nat.le_refl _)] at this
 exact this
end Rb
set_option linter.all false
namespace MLab
theorem top_bit : ∀ (g m : Nat), m < g -> ∃ k, m.testBit k = false /\ g.testBit k = true /\ ∀ j, k < j -> m.testBit j = g.testBit j := by
 intro g
 induction g using Nat.strongRecOn with
 | _ g ih =>
   intro m h
   by_cases c : m / 2 < g / 2
   . obtain ⟨k, h1, h2, h3⟩ := ih (g / 2) (by omega) (m / 2) c
     refine ⟨k + 1, by rw [Nat.testBit_succ]; exact h1, by rw [Nat.testBit_succ]; exact h2, fun j hj => ?_⟩
     cases j with
     | zero => omega
     | succ j => rw [Nat.testBit_succ, Nat.testBit_succ]; exact h3 j (by omega)
   . have e : m / 2 = g / 2 := by omega
     refine ⟨0, ?_, ?_, fun j hj => ?_⟩
     . rw [Nat.testBit_zero]; simp; omega
     . rw [Nat.testBit_zero]; simp; omega
     . cases j with
       | zero => omega
       | succ j => rw [Nat.testBit_succ, Nat.testBit_succ, e]
theorem lt_bit {x y : Nat} (k : Nat) (hx : x.testBit k = false) (hy : y.testBit k = true) (h : ∀ j, k < j -> x.testBit j = y.testBit j) : x < y := by
 rcases Nat.lt_trichotomy x y with c | rfl | c
 . exact c
 . rw [hx] at hy; cases hy
 . obtain ⟨i, h1, h2, h3⟩ := top_bit _ _ c
   rcases Nat.lt_trichotomy i k with d | rfl | d
   . have := h3 k d; rw [hx, hy] at this; cases this
   . rw [hy] at h1; cases h1
   . have := h i d; rw [h1, h2] at this; cases this
def xors (ns : List Nat) : Nat := ns.foldr (fun a b => a ^^^ b) 0
theorem xors_cons (a : Nat) (ns : List Nat) : xors (a :: ns) = a ^^^ xors ns := rfl
theorem xors_bit {k : Nat} : ∀ {ns : List Nat}, (xors ns).testBit k = true -> ∃ n ∈ ns, n.testBit k = true
 | [], h => by simp [xors] at h
 | a :: ns, h => by
   rw [xors_cons, Nat.testBit_xor] at h
   cases e : a.testBit k with
   | true => exact ⟨a, List.mem_cons_self, e⟩
   | false =>
     rw [e, Bool.false_xor] at h
     obtain ⟨n, hn, h'⟩ := xors_bit h
     exact ⟨n, List.mem_cons_of_mem _ hn, h'⟩
theorem xors_less {ns : List Nat} {m : Nat} (h : m < xors ns) : ∃ n ∈ ns, n ^^^ xors ns ^^^ m < n := by
 obtain ⟨k, h1, h2, h3⟩ := top_bit _ _ h
 obtain ⟨n, hn, hk⟩ := xors_bit h2
 refine ⟨n, hn, lt_bit k ?_ hk fun j hj => ?_⟩
 . rw [Nat.testBit_xor, Nat.testBit_xor, hk, h1, h2]; rfl
 . rw [Nat.testBit_xor, Nat.testBit_xor, h3 j hj]
   cases n.testBit j <;> cases (xors ns).testBit j <;> rfl
section
variable {α : Type} (G : α -> List α)
structure Lab (ok : α -> Prop) (num : α -> Option Nat) (stp : α -> Nat) : Prop where
 cl : ∀ {x y}, ok x -> y ∈ G x -> ok y
 n1 : ∀ {x n m}, ok x -> num x = some n -> m < n -> ∃ y ∈ G x, num y = some m /\ stp y < stp x
 n2 : ∀ {x y n}, ok x -> num x = some n -> y ∈ G x -> num y ≠ some n
 n3 : ∀ {x y n}, ok x -> num x = some n -> y ∈ G x -> (∀ m, num y = some m -> n < m) -> ∃ z ∈ G y, num z = some n /\ stp z < stp x
 n4 : ∀ {x y n m}, ok x -> num x = some n -> y ∈ G x -> num y = some m -> m < n -> stp y < stp x
 e : ∀ {x m}, ok x -> num x = none -> (∀ j, j < m -> ∃ y ∈ G x, num y = some j) -> (∀ y ∈ G x, num y ≠ some m) -> ∃ y ∈ G x, num y = none /\ ∀ z ∈ G y, num z ≠ some m
section
variable {β : Type} (M : β -> List β)
mutual
inductive Lost : β -> Prop
 | mk {a : β} (h : ∀ b ∈ M a, Won b) : Lost a
inductive Won : β -> Prop
 | mk {a b : β} (m : b ∈ M a) (h : Lost b) : Won a
end
end
def mv : List α -> List (List α)
 | [] => []
 | x :: h => (G x).map (fun y => y :: h) ++ (mv h).map (fun b => x :: b)
theorem qbt : ∀ {a b : List α}, b ∈ mv G a ↔ ∃ p x y q, a = p ++ x :: q /\ y ∈ G x /\ b = p ++ y :: q
 | [], b => by
   constructor
   . intro h; simp [mv] at h
   . rintro ⟨p, x, y, q, e, _⟩; simp at e
 | x :: h, b => by
   unfold mv
   rw [List.mem_append, List.mem_map, List.mem_map]
   constructor
   . rintro (⟨y, hy, rfl⟩ | ⟨b', hb, rfl⟩)
     . exact ⟨[], x, y, h, rfl, hy, rfl⟩
     . obtain ⟨p, u, y, q, rfl, hy, rfl⟩ := qbt.mp hb
       exact ⟨x :: p, u, y, q, rfl, hy, rfl⟩
   . rintro ⟨p, u, y, q, e, hy, rfl⟩
     cases p with
     | nil =>
       cases e
       exact .inl ⟨y, hy, rfl⟩
     | cons v p =>
       cases e
       exact .inr ⟨p ++ y :: q, qbt.mpr ⟨p, u, y, q, rfl, hy, rfl⟩, rfl⟩
variable {G} {ok : α -> Prop} {num : α -> Option Nat} {stp : α -> Nat}
def nums (num : α -> Option Nat) (h : List α) : List Nat := h.filterMap num
def ends (num : α -> Option Nat) (h : List α) : Nat := (h.filter fun x => (num x).isNone).length
theorem xors_app (a b : List Nat) : xors (a ++ b) = xors a ^^^ xors b := by
 induction a with
 | nil => show xors b = 0 ^^^ xors b; rw [Nat.zero_xor]
 | cons x a ih => rw [List.cons_append, xors_cons, ih, xors_cons, Nat.xor_assoc]
theorem qby {p q : List α} {x : α} {n : Nat} (h : num x = some n) : xors (nums num (p ++ x :: q)) = n ^^^ xors (nums num (p ++ q)) := by
 unfold nums
 rw [List.filterMap_append, List.filterMap_cons, h, List.filterMap_append, xors_app, xors_app]
 show _ ^^^ (n ^^^ xors _) = _
 rw [← Nat.xor_assoc, Nat.xor_comm _ n, Nat.xor_assoc]
theorem nums_gap {p q : List α} {x : α} (h : num x = none) : nums num (p ++ x :: q) = nums num (p ++ q) := by
 unfold nums
 rw [List.filterMap_append, List.filterMap_cons, h, List.filterMap_append]
theorem qbj {p q : List α} {x : α} {n : Nat} (h : num x = some n) : ends num (p ++ x :: q) = ends num (p ++ q) := by
 unfold ends
 rw [List.filter_append, List.filter_cons, h, List.filter_append]
 rfl
theorem qbq {p q : List α} {x : α} (h : num x = none) : ends num (p ++ x :: q) = ends num (p ++ q) + 1 := by
 unfold ends
 rw [List.filter_append, List.filter_cons, h, List.filter_append, List.length_append, List.length_append]
 show _ + (_ + 1) = _
 omega
def cost (stp : α -> Nat) (h : List α) : Nat := (h.map stp).sum
theorem cost_mid {p q : List α} {x : α} : cost stp (p ++ x :: q) = stp x + cost stp (p ++ q) := by
 unfold cost
 rw [List.map_append, List.map_cons, List.sum_append, List.sum_cons, List.map_append, List.sum_append]
 omega
theorem xor_same {a b c : Nat} (h : a ^^^ c = b ^^^ c) : a = b := by
 have : a ^^^ c ^^^ c = b ^^^ c ^^^ c := by rw [h]
 rwa [Nat.xor_assoc, Nat.xor_assoc, Nat.xor_self, Nat.xor_zero, Nat.xor_zero] at this
theorem to_less (L : Lab G ok num stp) {h : List α} (hk : ∀ x ∈ h, ok x) {m : Nat} (lt : m < xors (nums num h)) : ∃ p x y q, h = p ++ x :: q /\ y ∈ G x /\ (∃ n k, num x = some n /\ num y = some k) /\ xors (nums num (p ++ y :: q)) = m /\ stp y < stp x := by
 obtain ⟨n, hn, hl⟩ := xors_less lt
 obtain ⟨x, hx, ex⟩ := List.mem_filterMap.mp hn
 obtain ⟨p, q, rfl⟩ := List.append_of_mem hx
 obtain ⟨y, hy, ey, ly⟩ := L.n1 (hk x hx) ex hl
 refine ⟨p, x, y, q, rfl, hy, ⟨n, _, ex, ey⟩, ?_, ly⟩
 rw [qby ey, qby ex]
 generalize xors (nums num (p ++ q)) = r
 rw [← Nat.xor_assoc n n r, Nat.xor_self, Nat.zero_xor, Nat.xor_comm r m, Nat.xor_assoc, Nat.xor_self, Nat.xor_zero]
theorem ok_set {h p q : List α} {x y : α} (L : Lab G ok num stp) (hk : ∀ x ∈ h, ok x) (e : h = p ++ x :: q) (hy : y ∈ G x) : ∀ z ∈ p ++ y :: q, ok z := fun z hz => by
 subst e
 rcases List.mem_append.mp hz with hz | hz
 . exact hk z (List.mem_append_left _ hz)
 . rcases List.mem_cons.mp hz with rfl | hz
   . exact L.cl (hk x (by simp)) hy
   . exact hk z (List.mem_append_right _ (List.mem_cons_of_mem _ hz))
theorem lost_zero (L : Lab G ok num stp) : ∀ (c : Nat) {h : List α}, cost stp h <= c -> (∀ x ∈ h, ok x) -> ends num h = 0 -> xors (nums num h) = 0 -> Lost (mv G) h := by
 intro c
 induction c using Nat.strongRecOn with
 | _ c ih =>
   intro h hc hk he hx
   refine .mk fun b hb => ?_
   obtain ⟨p, x, y, q, rfl, hy, rfl⟩ := (qbt G).mp hb
   have okx := hk x (by simp)
   have hk' := ok_set L hk rfl hy
   cases ex : num x with
   | none => rw [qbq ex] at he; omega
   | some n =>
     rw [qbj ex] at he
     rw [qby ex] at hx
     rw [cost_mid] at hc
     have back : (∀ m, num y = some m -> n < m) -> Won (mv G) (p ++ y :: q) := fun gt => by
       obtain ⟨z, hz, ez, lz⟩ := L.n3 okx ex hy gt
       refine .mk (b := p ++ z :: q) ((qbt G).mpr ⟨p, y, z, q, rfl, hz, rfl⟩) (ih (cost stp (p ++ z :: q)) (by rw [cost_mid]; omega) (Nat.le_refl _) (ok_set L hk' rfl hz) (by rw [qbj ez]; exact he) (by rw [qby ez]; exact hx))
     cases ey : num y with
     | none => exact back fun m h => by rw [ey] at h; cases h
     | some k =>
       rcases Nat.lt_trichotomy k n with lt | rfl | gt
       . have ly := L.n4 okx ex hy ey lt
         have pos : 0 < xors (nums num (p ++ y :: q)) := by
           rw [qby ey]
           refine Nat.pos_of_ne_zero fun z => ?_
           have := xor_same (z.trans hx.symm)
           omega
         obtain ⟨p', x', y', q', e', hy', ⟨n', k', en, ek⟩, x0, l'⟩ := to_less L hk' pos
         have ce : cost stp (p ++ y :: q) = stp y + cost stp (p ++ q) := cost_mid
         rw [e', cost_mid] at ce
         have ee : ends num (p ++ y :: q) = 0 := by rw [qbj ey]; exact he
         refine .mk (b := p' ++ y' :: q') ((qbt G).mpr ⟨p', x', y', q', e', hy', rfl⟩) (ih (cost stp (p' ++ y' :: q')) (by rw [cost_mid]; omega) (Nat.le_refl _) (ok_set L hk' e' hy') ?_ x0)
         rw [e', qbj en] at ee
         rw [qbj ek]
         exact ee
       . exact absurd ey (L.n2 okx ex hy)
       . exact back fun m h => by rw [ey] at h; cases h; exact gt
def Drawn (G : α -> List α) (num : α -> Option Nat) (h : List α) : Prop := (∃ p x q, h = p ++ x :: q /\ num x = none /\ ends num (p ++ q) = 0 /\ ∀ y ∈ G x, num y ≠ some (xors (nums num (p ++ q)))) ∨ 2 <= ends num h
theorem ends_pos {h : List α} : 0 < ends num h ↔ ∃ p x q, h = p ++ x :: q /\ num x = none := by
 unfold ends
 constructor
 . intro c
   obtain ⟨x, hx⟩ := List.exists_mem_of_length_pos c
   obtain ⟨h1, h2⟩ := List.mem_filter.mp hx
   obtain ⟨p, q, e⟩ := List.append_of_mem h1
   exact ⟨p, x, q, e, by simpa using h2⟩
 . rintro ⟨p, x, q, rfl, ex⟩
   exact List.length_pos_of_mem (a := x) (List.mem_filter.mpr ⟨by simp, by rw [ex]; rfl⟩)
theorem lack (L : Lab G ok num stp) {x : α} (okx : ok x) (ex : num x = none) : ∃ m, (∀ j, j < m -> ∃ y ∈ G x, num y = some j) /\ (∀ y ∈ G x, num y ≠ some m) /\ ∃ y ∈ G x, num y = none /\ ∀ z ∈ G y, num z ≠ some m := by
 have ⟨b, hb⟩ : ∃ b, ∀ y ∈ G x, num y ≠ some b := by
   refine ⟨(nums num (G x)).sum + 1, fun y hy e => ?_⟩
   have : ∀ (l : List Nat) (n : Nat), n ∈ l -> n <= l.sum := by
     intro l
     induction l with
     | nil => intro n h; cases h
     | cons a l ih =>
       intro n h
       rw [List.sum_cons]
       rcases List.mem_cons.mp h with rfl | h
       . omega
       . have := ih n h; omega
   have q : (nums num (G x)).sum + 1 ∈ nums num (G x) := List.mem_filterMap.mpr ⟨y, hy, e⟩
   have := this _ _ q
   omega
 have ⟨m, hm, least⟩ : ∃ m, (∀ y ∈ G x, num y ≠ some m) /\ ∀ j, j < m -> ¬ ∀ y ∈ G x, num y ≠ some j := by
   induction b using Nat.strongRecOn with
   | _ b ih =>
     by_cases c : ∃ j, j < b /\ ∀ y ∈ G x, num y ≠ some j
     . obtain ⟨j, hj, h⟩ := c
       exact ih j hj h
     . exact ⟨b, hb, fun j hj h => c ⟨j, hj, h⟩⟩
 have lo : ∀ j, j < m -> ∃ y ∈ G x, num y = some j := fun j hj => Classical.byContradiction fun n => least j hj fun y hy e => n ⟨y, hy, e⟩
 exact ⟨m, lo, hm, L.e okx ex lo hm⟩
theorem drawn_go (L : Lab G ok num stp) {h : List α} (hk : ∀ x ∈ h, ok x) (d : Drawn G num h) : ∃ b ∈ mv G h, Drawn G num b := by
 rcases d with ⟨p, x, q, rfl, ex, he, no⟩ | two
 . have okx := hk x (by simp)
   obtain ⟨m, lo, hm, y, hy, ey, ly⟩ := lack L okx ex
   rcases Nat.lt_trichotomy m (xors (nums num (p ++ q))) with lt | e | gt
   . have hk' : ∀ z ∈ p ++ q, ok z := fun z hz => hk z (by
       rcases List.mem_append.mp hz with hz | hz
       . exact List.mem_append_left _ hz
       . exact List.mem_append_right _ (List.mem_cons_of_mem _ hz))
     obtain ⟨p', x', y', q', e', hy', ⟨n', k', en, ek⟩, x0, _⟩ := to_less L hk' lt
     have key : ∃ p2 q2, p ++ x :: q ∈ [p ++ x :: q] /\ (p2 ++ x :: q2) ∈ mv G (p ++ x :: q) /\ p2 ++ q2 = p' ++ y' :: q' := by
       rcases List.append_eq_append_iff.mp e' with ⟨r, e1, e2⟩ | ⟨r, e1, e2⟩
       .
         refine ⟨p, r ++ y' :: q', by simp, (qbt G).mpr ⟨p ++ x :: r, x', y', q', ?_, hy', ?_⟩, ?_⟩
         . rw [e2]; simp
         . simp
         . rw [e1]; simp
       .
         cases r with
         | nil =>
           simp at e1 e2
           refine ⟨p, y' :: q', by simp, (qbt G).mpr ⟨p ++ [x], x', y', q', ?_, hy', ?_⟩, ?_⟩
           . rw [← e2]; simp
           . simp
           . rw [e1]
         | cons u r =>
           rw [List.cons_append] at e2
           obtain ⟨rfl, e3⟩ := List.cons.inj e2
           refine ⟨p' ++ y' :: r, q, by simp, (qbt G).mpr ⟨p', x', y', r ++ x :: q, ?_, hy', ?_⟩, ?_⟩
           . rw [e1]; simp
           . simp
           . rw [e3]; simp
     obtain ⟨p2, q2, _, hm2, e2⟩ := key
     refine ⟨_, hm2, .inl ⟨p2, x, q2, rfl, ex, ?_, ?_⟩⟩
     . rw [e2, qbj ek]
       rw [e', qbj en] at he
       exact he
     . rw [e2, x0]
       exact hm
   . exact ⟨p ++ y :: q, (qbt G).mpr ⟨p, x, y, q, rfl, hy, rfl⟩, .inl ⟨p, y, q, rfl, ey, he, by rw [← e]; exact ly⟩⟩
   . obtain ⟨y', hy', e'⟩ := lo _ gt
     exact absurd e' (no y' hy')
 . obtain ⟨p, x, q, rfl, ex⟩ := ends_pos.mp (by omega : 0 < ends num h)
   obtain ⟨m, lo, hm, y, hy, ey, ly⟩ := lack L (hk x (by simp)) ex
   refine ⟨p ++ y :: q, (qbt G).mpr ⟨p, x, y, q, rfl, hy, rfl⟩, .inr ?_⟩
   rw [qbq ex] at two
   rw [qbq ey]
   exact two
def Zero (num : α -> Option Nat) (h : List α) : Prop := ends num h = 0 /\ xors (nums num h) = 0
theorem zero_zero (L : Lab G ok num stp) {h b : List α} (hk : ∀ x ∈ h, ok x) (z : Zero num h) (m : b ∈ mv G h) : ¬ Zero num b := fun w => by
 obtain ⟨p, x, y, q, rfl, hy, rfl⟩ := (qbt G).mp m
 cases ex : num x with
 | none => have := z.1; rw [qbq ex] at this; omega
 | some n =>
   cases ey : num y with
   | none => have := w.1; rw [qbq ey] at this; omega
   | some k =>
     have h1 := z.2
     have h2 := w.2
     rw [qby ex] at h1
     rw [qby ey] at h2
     have := xor_same (h1.trans h2.symm)
     subst this
     exact L.n2 (hk x (by simp)) ex hy ey
theorem drawn_zero {h b : List α} (d : Drawn G num h) (m : b ∈ mv G h) : ¬ Zero num b := fun w => by
 obtain ⟨p', u, y, q', rfl, hy, rfl⟩ := (qbt G).mp m
 cases eu : num u with
 | some n =>
   have pos : 0 < ends num (p' ++ u :: q') := by
     rcases d with ⟨p, x, q, e, ex, _⟩ | two
     . exact ends_pos.mpr ⟨p, x, q, e, ex⟩
     . omega
   rw [qbj eu] at pos
   have w1 := w.1
   cases ey : num y with
   | none => rw [qbq ey] at w1; omega
   | some k => rw [qbj ey] at w1; omega
 | none =>
   have w1 := w.1
   cases ey : num y with
   | none => rw [qbq ey] at w1; omega
   | some k =>
     rw [qbj ey] at w1
     rcases d with ⟨p, x, q, e, ex, he, no⟩ | two
     . have hu : u ∈ p ++ x :: q := by rw [← e]; simp
       have ux : u = x := Classical.byContradiction fun ne => by
         have : u ∈ p ++ q := by
           rcases List.mem_append.mp hu with h | h
           . exact List.mem_append_left _ h
           . rcases List.mem_cons.mp h with h | h
             . exact absurd h ne
             . exact List.mem_append_right _ h
         obtain ⟨a, b, e2⟩ := List.append_of_mem this
         have := ends_pos.mpr ⟨a, u, b, e2, eu⟩
         omega
       subst ux
       have en : nums num (p' ++ q') = nums num (p ++ q) := by rw [← nums_gap (p := p') (q := q') eu, e, nums_gap eu]
       have w2 := w.2
       rw [qby ey, en] at w2
       have : k = xors (nums num (p ++ q)) := xor_same (c := xors (nums num (p ++ q))) (by rw [w2, Nat.xor_self])
       exact no y hy (by rw [ey, this])
     . rw [qbq eu] at two
       omega
theorem kind (L : Lab G ok num stp) {h : List α} (hk : ∀ x ∈ h, ok x) : Zero num h ∨ Drawn G num h ∨ ∃ b ∈ mv G h, Zero num b /\ ∀ x ∈ b, ok x := by
 rcases Nat.lt_trichotomy (ends num h) 1 with c | c | c
 . have he : ends num h = 0 := by omega
   by_cases hx : xors (nums num h) = 0
   . exact .inl ⟨he, hx⟩
   . obtain ⟨p, x, y, q, e, hy, ⟨n, k, en, ek⟩, x0, _⟩ := to_less L hk (Nat.pos_of_ne_zero hx)
     refine .inr (.inr ⟨p ++ y :: q, (qbt G).mpr ⟨p, x, y, q, e, hy, rfl⟩, ⟨?_, x0⟩, ok_set L hk e hy⟩)
     rw [e, qbj en] at he
     rw [qbj ek]
     exact he
 . obtain ⟨p, x, q, rfl, ex⟩ := ends_pos.mp (by omega : 0 < ends num h)
   rw [qbq ex] at c
   have he : ends num (p ++ q) = 0 := by omega
   by_cases d : ∃ y ∈ G x, num y = some (xors (nums num (p ++ q)))
   . obtain ⟨y, hy, ey⟩ := d
     exact .inr (.inr ⟨p ++ y :: q, (qbt G).mpr ⟨p, x, y, q, rfl, hy, rfl⟩, ⟨by rw [qbj ey]; exact he, by rw [qby ey, Nat.xor_self]⟩, ok_set L hk rfl hy⟩)
   . exact .inr (.inl (.inl ⟨p, x, q, rfl, ex, he, fun y hy e => d ⟨y, hy, e⟩⟩))
 . exact .inr (.inl (.inr (by omega)))
mutual
theorem lost_is (L : Lab G ok num stp) {h : List α} (hk : ∀ x ∈ h, ok x) : Lost (mv G) h -> Zero num h
 | .mk w => by
   rcases kind L hk with z | d | ⟨b, hb, z, kb⟩
   . exact z
   . obtain ⟨b, hb, d'⟩ := drawn_go L hk d
     have kb : ∀ x ∈ b, ok x := by
       obtain ⟨p, x, y, q, e, hy, rfl⟩ := (qbt G).mp hb
       exact ok_set L hk e hy
     exact absurd d' (won_is L kb (w b hb)).1
   . exact absurd z (won_is L kb (w b hb)).2
theorem won_is (L : Lab G ok num stp) {h : List α} (hk : ∀ x ∈ h, ok x) : Won (mv G) h -> ¬ Drawn G num h /\ ¬ Zero num h
 | .mk (b := b) m l => by
   have kb : ∀ x ∈ b, ok x := by
     obtain ⟨p, x, y, q, e, hy, rfl⟩ := (qbt G).mp m
     exact ok_set L hk e hy
   have z := lost_is L kb l
   exact ⟨fun d => drawn_zero d m z, fun z' => zero_zero L hk z' m z⟩
end
theorem lost_iff (L : Lab G ok num stp) {h : List α} (hk : ∀ x ∈ h, ok x) : Lost (mv G) h ↔ Zero num h := ⟨lost_is L hk, fun z => lost_zero L _ (Nat.le_refl _) hk z.1 z.2⟩
theorem won_iff (L : Lab G ok num stp) {h : List α} (hk : ∀ x ∈ h, ok x) : Won (mv G) h ↔ ¬ Drawn G num h /\ ¬ Zero num h := ⟨won_is L hk, fun ⟨d, z⟩ => by
 rcases kind L hk with z' | d' | ⟨b, hb, z', kb⟩
 . exact absurd z' z
 . exact absurd d' d
 . exact .mk hb ((lost_iff L kb).mpr z')⟩
end
section
variable {α : Type} [DecidableEq α] (G : α -> List α) (N : List α)
abbrev Rs (α : Type) := List (Nat × List α)
def fOf (rs : Rs α) (z : α) : Option Nat := (rs.find? fun r => decide (z ∈ r.2)).map (·.1)
def sOf (rs : Rs α) (z : α) : Nat := rs.findIdx fun r => decide (z ∈ r.2)
def Gets (f : α -> Option Nat) (x : α) (n : Nat) : Prop := (∀ j, j < n -> ∃ y ∈ G x, f y = some j) /\ (∀ y ∈ G x, f y ≠ some n) /\ ∀ y ∈ G x, f y = none -> ∃ z ∈ G y, f z = some n
structure Rnd (rs : Rs α) (n : Nat) (ns : List α) : Prop where
 iff : ∀ x, x ∈ ns ↔ x ∈ N /\ fOf rs x = none /\ Gets G (fOf rs) x n
 sub : ns.Sublist N
inductive Give (n : Nat) : Rs α -> Rs α -> Prop
 | stop {rs : Rs α} (h : Rnd G N rs n []) : Give n rs rs
 | more {rs rs' : Rs α} {ns : List α} (h : Rnd G N rs n ns) (ne : ns ≠ []) (k : Give n (rs ++ [(n, ns)]) rs') : Give n rs rs'
inductive All : Nat -> Rs α -> Rs α -> Prop
 | stop {n : Nat} {rs : Rs α} (h : Rnd G N rs n []) : All n rs rs
 | more {n : Nat} {rs rs' rs'' : Rs α} (h : Give G N n rs rs') (ne : rs' ≠ rs) (k : All (n + 1) rs' rs'') : All n rs rs''
variable {G N}
theorem fOf_snoc {rs : Rs α} {n : Nat} {ns : List α} {z : α} : fOf (rs ++ [(n, ns)]) z = match fOf rs z with | some m => some m | none => if z ∈ ns then some n else none := by
 unfold fOf
 rw [List.find?_append]
 cases e : rs.find? (fun r => decide (z ∈ r.2)) with
 | some r => rfl
 | none =>
   by_cases c : z ∈ ns
   . simp [c]
   . simp [c]
theorem fOf_mem {rs : Rs α} {z : α} : fOf rs z = none ↔ ∀ r ∈ rs, z ∉ r.2 := by
 unfold fOf
 rw [Option.map_eq_none_iff, List.find?_eq_none]
 simp
theorem qbw {rs : Rs α} {n m : Nat} {ns : List α} {z : α} (h : fOf rs z = some m) : sOf (rs ++ [(n, ns)]) z = sOf rs z /\ sOf rs z < rs.length := by
 have ex : ∃ r ∈ rs, z ∈ r.2 := Classical.byContradiction fun no => by
   have := fOf_mem.mpr fun r hr hz => no ⟨r, hr, hz⟩
   rw [h] at this
   cases this
 obtain ⟨r, hr, hz⟩ := ex
 have lt : sOf rs z < rs.length := List.findIdx_lt_length_of_exists ⟨r, hr, decide_eq_true hz⟩
 refine ⟨?_, lt⟩
 unfold sOf at lt ⊢
 rw [List.findIdx_append, if_pos lt]
theorem sOf_new {rs : Rs α} {n : Nat} {ns : List α} {z : α} (h : fOf rs z = none) (hz : z ∈ ns) : sOf (rs ++ [(n, ns)]) z = rs.length := by
 have e : sOf rs z = rs.length := by
   unfold sOf
   rw [List.findIdx_eq_length]
   intro r hr
   exact decide_eq_false (fOf_mem.mp h r hr)
 unfold sOf at e ⊢
 rw [List.findIdx_append, if_neg (by rw [e]; exact Nat.lt_irrefl _)]
 simp [hz, List.findIdx_cons]
variable (G N) in
structure Val (rs : Rs α) (n : Nat) : Prop where
 inN : ∀ {x m}, fOf rs x = some m -> x ∈ N
 le : ∀ {x m}, fOf rs x = some m -> m <= n
 n1 : ∀ {x k m}, fOf rs x = some k -> m < k -> ∃ y ∈ G x, fOf rs y = some m /\ sOf rs y < sOf rs x
 n2 : ∀ {x y k}, fOf rs x = some k -> y ∈ G x -> fOf rs y ≠ some k
 n3 : ∀ {x y k}, fOf rs x = some k -> y ∈ G x -> (∀ m, fOf rs y = some m -> k < m) -> ∃ z ∈ G y, fOf rs z = some k /\ sOf rs z < sOf rs x
 n4 : ∀ {x y k m}, fOf rs x = some k -> y ∈ G x -> fOf rs y = some m -> m < k -> sOf rs y < sOf rs x
theorem f_old {rs : Rs α} {n m : Nat} {ns : List α} {z : α} (h : fOf rs z = some m) : fOf (rs ++ [(n, ns)]) z = some m := by rw [fOf_snoc, h]
theorem f_new {rs : Rs α} {n : Nat} {ns : List α} {z : α} (h : fOf rs z = none) (hz : z ∈ ns) : fOf (rs ++ [(n, ns)]) z = some n := by
 rw [fOf_snoc, h]
 exact if_pos hz
theorem qav {rs : Rs α} {n m : Nat} {ns : List α} {z : α} (h : fOf (rs ++ [(n, ns)]) z = some m) : (fOf rs z = some m /\ sOf (rs ++ [(n, ns)]) z = sOf rs z /\ sOf rs z < rs.length) ∨ (fOf rs z = none /\ z ∈ ns /\ m = n /\ sOf (rs ++ [(n, ns)]) z = rs.length) := by
 cases e : fOf rs z with
 | some k =>
   rw [f_old e] at h
   cases h
   exact .inl ⟨rfl, qbw e⟩
 | none =>
   rw [fOf_snoc, e] at h
   by_cases c : z ∈ ns
   . have h : (if z ∈ ns then some n else none) = some m := h
     rw [if_pos c] at h
     cases h
     exact .inr ⟨rfl, c, rfl, sOf_new e c⟩
   . have h : (if z ∈ ns then some n else none) = some m := h
     rw [if_neg c] at h
     cases h
theorem f_none {rs : Rs α} {n : Nat} {ns : List α} {z : α} (h : fOf (rs ++ [(n, ns)]) z = none) : fOf rs z = none := by
 cases e : fOf rs z with
 | none => rfl
 | some k => rw [f_old e] at h; cases h
theorem Val.more {rs : Rs α} {n : Nat} {ns : List α} (v : Val G N rs n) (r : Rnd G N rs n ns) : Val G N (rs ++ [(n, ns)]) n := by
 refine ⟨fun {x m} h => ?_, fun {x m} h => ?_, fun {x k m} h lt => ?_, fun {x y k} h hy e => ?_, fun {x y k} h hy gt => ?_, fun {x y k m} h hy ey lt => ?_⟩
 . rcases qav h with ⟨h, _⟩ | ⟨_, h, _⟩
   . exact v.inN h
   . exact ((r.iff x).mp h).1
 . rcases qav h with ⟨h, _⟩ | ⟨_, _, rfl, _⟩
   . exact v.le h
   . exact Nat.le_refl _
 . rcases qav h with ⟨h, es, _⟩ | ⟨h, hx, rfl, es⟩
   . obtain ⟨y, hy, ey, ly⟩ := v.n1 h lt
     exact ⟨y, hy, f_old ey, by rw [es, (qbw ey).1]; exact ly⟩
   . obtain ⟨y, hy, ey⟩ := ((r.iff x).mp hx).2.2.1 m lt
     exact ⟨y, hy, f_old ey, by rw [es, (qbw (n := k) (ns := ns) ey).1]; exact (qbw (n := k) (ns := ns) ey).2⟩
 . rcases qav h with ⟨h, _⟩ | ⟨h, hx, rfl, _⟩
   . rcases qav e with ⟨e, _⟩ | ⟨e1, hy', e2, _⟩
     . exact v.n2 h hy e
     . obtain ⟨z, hz, ez, _⟩ := v.n3 h hy (fun m q => by rw [e1] at q; cases q)
       rw [e2] at ez
       exact ((r.iff y).mp hy').2.2.2.1 z hz ez
   . have g := ((r.iff x).mp hx).2.2
     rcases qav e with ⟨e, _⟩ | ⟨e, hy', _, _⟩
     . exact g.2.1 y hy e
     . obtain ⟨z, hz, ez⟩ := g.2.2 y hy e
       exact ((r.iff y).mp hy').2.2.2.1 z hz ez
 . rcases qav h with ⟨h, es, _⟩ | ⟨h, hx, rfl, es⟩
   . obtain ⟨z, hz, ez, lz⟩ := v.n3 h hy (fun m q => gt m (f_old q))
     exact ⟨z, hz, f_old ez, by rw [es, (qbw ez).1]; exact lz⟩
   . have bare : fOf rs y = none := by
       cases e : fOf rs y with
       | none => rfl
       | some m =>
         have := gt m (f_old e)
         have := v.le e
         omega
     obtain ⟨z, hz, ez⟩ := ((r.iff x).mp hx).2.2.2.2 y hy bare
     exact ⟨z, hz, f_old ez, by rw [es, (qbw (n := k) (ns := ns) ez).1]; exact (qbw (n := k) (ns := ns) ez).2⟩
 . rcases qav h with ⟨h, es, _⟩ | ⟨h, hx, rfl, es⟩
   . rcases qav ey with ⟨ey, es', _⟩ | ⟨_, _, em, _⟩
     . rw [es, es']
       exact v.n4 h hy ey lt
     . have := v.le h
       omega
   . rcases qav ey with ⟨ey, es', l'⟩ | ⟨_, _, rfl, _⟩
     . rw [es, es']
       exact l'
     . omega
variable (G N) in
def EP (rs : Rs α) (m : Nat) : Prop := ∀ x ∈ N, fOf rs x = none -> (∀ j, j < m -> ∃ y ∈ G x, fOf rs y = some j) -> (∀ y ∈ G x, fOf rs y ≠ some m) -> ∃ y ∈ G x, fOf rs y = none /\ ∀ z ∈ G y, fOf rs z ≠ some m
theorem ep_new {rs : Rs α} {n : Nat} (r : Rnd G N rs n []) : EP G N rs n := fun x hx e lo hi => Classical.byContradiction fun no => by
 refine absurd ((r.iff x).mpr ⟨hx, e, lo, hi, fun y hy ey => Classical.byContradiction fun q => no ⟨y, hy, ey, fun z hz ez => q ⟨z, hz, ez⟩⟩⟩) (by simp)
theorem ep_keep {rs : Rs α} {n m : Nat} {ns : List α} (v : Val G N rs n) (r : Rnd G N rs n ns) (lt : m < n) (h : EP G N rs m) : EP G N (rs ++ [(n, ns)]) m := fun x hx e lo hi => by
 have old : ∀ {z j}, j <= m -> fOf (rs ++ [(n, ns)]) z = some j -> fOf rs z = some j := fun {z j} hj ez => by
   rcases qav ez with ⟨ez, _⟩ | ⟨_, _, rfl, _⟩
   . exact ez
   . omega
 obtain ⟨y, hy, ey, ly⟩ := h x hx (f_none e) (fun j hj => let ⟨y, hy, ey⟩ := lo j hj; ⟨y, hy, old (by omega) ey⟩) (fun y hy ey => hi y hy (f_old ey))
 refine ⟨y, hy, ?_, fun z hz ez => ly z hz (old (Nat.le_refl _) ez)⟩
 cases q : fOf (rs ++ [(n, ns)]) y with
 | none => rfl
 | some k =>
   rcases qav q with ⟨q, _⟩ | ⟨_, hy', rfl, _⟩
   . rw [ey] at q; cases q
   . obtain ⟨z, hz, ez⟩ := ((r.iff y).mp hy').2.2.1 m lt
     exact absurd ez (ly z hz)
theorem give_ok {n : Nat} {rs rs' : Rs α} (g : Give G N n rs rs') : Val G N rs n -> (∀ m, m < n -> EP G N rs m) -> Val G N rs' n /\ ∀ m, m <= n -> EP G N rs' m := by
 induction g with
 | stop r => exact fun v h => ⟨v, fun m hm => by
     rcases Nat.lt_or_ge m n with c | c
     . exact h m c
     . have : m = n := by omega
       subst this
       exact ep_new r⟩
 | more r ne k ih => exact fun v h => ih (v.more r) fun m hm => ep_keep v r hm (h m hm)
theorem all_ok (cl : ∀ x ∈ N, ∀ y ∈ G x, y ∈ N) {n : Nat} {rs rs' : Rs α} (a : All G N n rs rs') : Val G N rs n -> (∀ x m, fOf rs x = some m -> m < n) -> (∀ m, m < n -> EP G N rs m) -> Lab G (· ∈ N) (fOf rs') (sOf rs') := by
 induction a with
 | @stop n rs r =>
   intro v lt h
   refine ⟨fun {x y} hx hy => cl x hx y hy, fun {x n m} _ => v.n1, fun {x y n} _ => v.n2, fun {x y n} _ => v.n3, fun {x y n m} _ => v.n4, fun {x m} hx e lo hi => ?_⟩
   rcases Nat.lt_trichotomy m n with c | rfl | c
   . exact h m c x hx e lo hi
   . exact ep_new r x hx e lo hi
   . obtain ⟨y, _, ey⟩ := lo n c
     have := lt y n ey
     omega
 | @more n rs rs1 rs2 g ne k ih =>
   intro v lt h
   obtain ⟨v', h'⟩ := give_ok g v h
   exact ih ⟨v'.inN, fun {x m} e => Nat.le_succ_of_le (v'.le e), v'.n1, v'.n2, v'.n3, v'.n4⟩ (fun x m e => Nat.lt_succ_of_le (v'.le e)) fun m hm => h' m (by omega)
theorem val_nil (n : Nat) : Val G N ([] : Rs α) n := ⟨fun h => (nomatch h), fun h => (nomatch h), fun h => (nomatch h), fun h => (nomatch h), fun h => (nomatch h), fun h => (nomatch h)⟩
theorem labs (cl : ∀ x ∈ N, ∀ y ∈ G x, y ∈ N) {rs : Rs α} (a : All G N 0 [] rs) : Lab G (· ∈ N) (fOf rs) (sOf rs) := all_ok cl a (val_nil 0) (fun x m h => (nomatch h)) fun m h => absurd h (Nat.not_lt_zero m)
end
end MLab
set_option linter.all false
namespace MLab
section
variable {α : Type} (G : α -> List α)
def mvs (b : α × Nat) : List (α × Nat) := (G b.1).map (fun y => (y, b.2)) ++ (List.range b.2).map fun k => (b.1, k)
def gS : α ⊕ Nat -> List (α ⊕ Nat)
 | .inl z => (G z).map .inl
 | .inr h => (List.range h).map .inr
def numS (num : α -> Option Nat) : α ⊕ Nat -> Option Nat
 | .inl z => num z
 | .inr h => some h
def stpS (stp : α -> Nat) : α ⊕ Nat -> Nat
 | .inl z => stp z
 | .inr h => h
def okS (ok : α -> Prop) : α ⊕ Nat -> Prop
 | .inl z => ok z
 | .inr _ => True
variable {G} {ok : α -> Prop} {num : α -> Option Nat} {stp : α -> Nat}
theorem labS (L : Lab G ok num stp) : Lab (gS G) (okS ok) (numS num) (stpS stp) where
 cl := fun {x y} hx hy => by
   cases x with
   | inl z =>
     obtain ⟨y', hy', rfl⟩ := List.mem_map.mp hy
     exact L.cl hx hy'
   | inr h =>
     obtain ⟨k, _, rfl⟩ := List.mem_map.mp hy
     trivial
 n1 := fun {x n m} hx e lt => by
   cases x with
   | inl z =>
     obtain ⟨y, hy, ey, ly⟩ := L.n1 hx e lt
     exact ⟨.inl y, List.mem_map.mpr ⟨y, hy, rfl⟩, ey, ly⟩
   | inr h =>
     obtain rfl : h = n := Option.some.inj e
     exact ⟨.inr m, List.mem_map.mpr ⟨m, List.mem_range.mpr lt, rfl⟩, rfl, lt⟩
 n2 := fun {x y n} hx e hy => by
   cases x with
   | inl z =>
     obtain ⟨y', hy', rfl⟩ := List.mem_map.mp hy
     exact L.n2 hx e hy'
   | inr h =>
     obtain ⟨k, hk, rfl⟩ := List.mem_map.mp hy
     obtain rfl : h = n := Option.some.inj e
     intro q
     have : k = h := Option.some.inj q
     have := List.mem_range.mp hk
     omega
 n3 := fun {x y n} hx e hy gt => by
   cases x with
   | inl z =>
     obtain ⟨y', hy', rfl⟩ := List.mem_map.mp hy
     obtain ⟨u, hu, eu, lu⟩ := L.n3 hx e hy' gt
     exact ⟨.inl u, List.mem_map.mpr ⟨u, hu, rfl⟩, eu, lu⟩
   | inr h =>
     obtain ⟨k, hk, rfl⟩ := List.mem_map.mp hy
     obtain rfl : h = n := Option.some.inj e
     have := gt k rfl
     have := List.mem_range.mp hk
     omega
 n4 := fun {x y n m} hx e hy ey lt => by
   cases x with
   | inl z =>
     obtain ⟨y', hy', rfl⟩ := List.mem_map.mp hy
     exact L.n4 hx e hy' ey lt
   | inr h =>
     obtain ⟨k, hk, rfl⟩ := List.mem_map.mp hy
     exact List.mem_range.mp hk
 e := fun {x m} hx e lo hi => by
   cases x with
   | inl z =>
     obtain ⟨y, hy, ey, ly⟩ := L.e hx e (fun j hj => by
       obtain ⟨y, hy, ey⟩ := lo j hj
       obtain ⟨y', hy', rfl⟩ := List.mem_map.mp hy
       exact ⟨y', hy', ey⟩) (fun y hy => hi (.inl y) (List.mem_map.mpr ⟨y, hy, rfl⟩))
     refine ⟨.inl y, List.mem_map.mpr ⟨y, hy, rfl⟩, ey, fun u hu => ?_⟩
     obtain ⟨u', hu', rfl⟩ := List.mem_map.mp hu
     exact ly u' hu'
   | inr h => cases e
def two (b : α × Nat) : List (α ⊕ Nat) := [.inl b.1, .inr b.2]
theorem two_mv {b : α × Nat} {c : List (α ⊕ Nat)} : c ∈ mv (gS G) (two b) ↔ ∃ b' ∈ mvs G b, c = two b' := by
 unfold two mvs
 rw [qbt]
 constructor
 . rintro ⟨p, x, y, q, e, hy, rfl⟩
   cases p with
   | nil =>
     cases e
     obtain ⟨y', hy', rfl⟩ := List.mem_map.mp hy
     exact ⟨(y', b.2), List.mem_append_left _ (List.mem_map.mpr ⟨y', hy', rfl⟩), rfl⟩
   | cons u p =>
     cases p with
     | nil =>
       cases e
       obtain ⟨k, hk, rfl⟩ := List.mem_map.mp hy
       exact ⟨(b.1, k), List.mem_append_right _ (List.mem_map.mpr ⟨k, hk, rfl⟩), rfl⟩
     | cons v p => cases p <;> cases e
 . rintro ⟨b', hb, rfl⟩
   rcases List.mem_append.mp hb with hb | hb
   . obtain ⟨y, hy, rfl⟩ := List.mem_map.mp hb
     exact ⟨[], .inl b.1, .inl y, [.inr b.2], rfl, List.mem_map.mpr ⟨y, hy, rfl⟩, rfl⟩
   . obtain ⟨k, hk, rfl⟩ := List.mem_map.mp hb
     exact ⟨[.inl b.1], .inr b.2, .inr k, [], rfl, List.mem_map.mpr ⟨k, hk, rfl⟩, rfl⟩
mutual
theorem lost_two {b : α × Nat} : Lost (mvs G) b -> Lost (mv (gS G)) (two b)
 | .mk w => .mk fun c hc => by
   obtain ⟨b', hb, rfl⟩ := two_mv.mp hc
   exact won_two (w b' hb)
theorem won_two {b : α × Nat} : Won (mvs G) b -> Won (mv (gS G)) (two b)
 | .mk (b := b') m l => .mk (two_mv.mpr ⟨b', m, rfl⟩) (lost_two l)
end
mutual
theorem two_lost {c : List (α ⊕ Nat)} : Lost (mv (gS G)) c -> ∀ b : α × Nat, c = two b -> Lost (mvs G) b
 | .mk w => fun b e => .mk fun b' hb => two_won (w (two b') (by rw [e]; exact two_mv.mpr ⟨b', hb, rfl⟩)) b' rfl
theorem two_won {c : List (α ⊕ Nat)} : Won (mv (gS G)) c -> ∀ b : α × Nat, c = two b -> Won (mvs G) b
 | .mk m l => fun b e => by
   rw [e] at m
   obtain ⟨b', hb, e'⟩ := two_mv.mp m
   exact .mk hb (two_lost l b' e')
end
theorem lost_ladder (L : Lab G ok num stp) {z : α} {h : Nat} (hz : ok z) : Lost (mvs G) (z, h) ↔ num z = some h := by
 have hk : ∀ x ∈ two (z, h), okS ok x := fun x hx => by
   unfold two at hx
   rcases List.mem_cons.mp hx with rfl | hx
   . exact hz
   . rw [List.mem_singleton.mp hx]; trivial
 have h1 : Lost (mvs G) (z, h) ↔ Lost (mv (gS G)) (two (z, h)) := ⟨lost_two, fun l => two_lost l _ rfl⟩
 rw [h1, lost_iff (labS L) hk]
 unfold Zero two ends nums
 cases e : num z with
 | none => simp [numS, e]
 | some n =>
   simp only [List.filter_cons, List.filterMap_cons, numS, e]
   show (0 = 0 /\ n ^^^ (h ^^^ 0) = 0) ↔ _
   rw [Nat.xor_zero]
   constructor
   . rintro ⟨_, x⟩
     have : n = h := xor_same (c := h) (by rw [x, Nat.xor_self])
     rw [this]
   . intro q
     cases q
     exact ⟨rfl, Nat.xor_self _⟩
end
section
variable {β : Type} {M : β -> List β}
mutual
theorem not_lost {ok X : β -> Prop} (cl : ∀ {a b}, ok a -> b ∈ M a -> ok b) (go : ∀ {a}, ok a -> X a -> ∃ b ∈ M a, X b) (no : ∀ {a b}, ok a -> X a -> b ∈ M a -> Lost M b -> X b) {a : β} (hk : ok a) : Lost M a -> ¬ X a
 | .mk w => fun x => by
   obtain ⟨b, hb, xb⟩ := go hk x
   exact not_won cl go no (cl hk hb) (w b hb) xb
theorem not_won {ok X : β -> Prop} (cl : ∀ {a b}, ok a -> b ∈ M a -> ok b) (go : ∀ {a}, ok a -> X a -> ∃ b ∈ M a, X b) (no : ∀ {a b}, ok a -> X a -> b ∈ M a -> Lost M b -> X b) {a : β} (hk : ok a) : Won M a -> ¬ X a
 | .mk (b := b) m l => fun x => not_lost cl go no (cl hk m) l (no hk x m l)
end
end
end MLab
set_option linter.all false
namespace MLab
section
variable {β : Type} [DecidableEq β] {M : β -> List β}
mutual
theorem lost_not {a : β} : Lost M a -> ¬ Won M a
 | .mk w => fun ⟨m, l⟩ => won_not (w _ m) l
theorem won_not {a : β} : Won M a -> ¬ Lost M a
 | .mk m l => fun ⟨w⟩ => lost_not l (w _ m)
end
def pr (M : β -> List β) (Bs : List β) (h : β) : List β := Bs.filter fun c => decide (h ∈ M c)
def opn (P l : List β) : Nat := (l.filter fun c => decide (c ∉ P)).length
structure Gnd (M : β -> List β) (Bs : List β) : Prop where
 nd : Bs.Nodup
 cl : ∀ {a b}, a ∈ Bs -> b ∈ M a -> b ∈ Bs
 mnd : ∀ {a}, a ∈ Bs -> (M a).Nodup
structure Bi (M : β -> List β) (Bs : List β) (F : β -> Option Bool) (P ln : List β) (lf : β -> Nat) (h : β) (j : Nat) : Prop where
 dom : ∀ b, (F b).isSome = true ↔ b ∈ P ∨ b = h ∨ b ∈ ln
 nd : (P ++ h :: ln).Nodup
 sub : ∀ b ∈ P ++ h :: ln, b ∈ Bs
 lost : ∀ {b}, F b = some false -> Lost M b
 won : ∀ {b}, F b = some true -> Won M b
 cnt : ∀ {b}, b ∈ Bs -> F b = none -> lf b + (if b ∈ (pr M Bs h).take j then 1 else 0) = opn P (M b) /\ 0 < lf b /\ (∀ c ∈ M b, c ∈ P -> F c = some true) /\ (b ∈ (pr M Bs h).take j -> F h = some true)
structure Bk (M : β -> List β) (Bs : List β) (F : β -> Option Bool) (P ln : List β) (lf : β -> Nat) : Prop where
 dom : ∀ b, (F b).isSome = true ↔ b ∈ P ∨ b ∈ ln
 nd : (P ++ ln).Nodup
 sub : ∀ b ∈ P ++ ln, b ∈ Bs
 lost : ∀ {b}, F b = some false -> Lost M b
 won : ∀ {b}, F b = some true -> Won M b
 cnt : ∀ {b}, b ∈ Bs -> F b = none -> lf b = opn P (M b) /\ 0 < lf b /\ ∀ c ∈ M b, c ∈ P -> F c = some true
variable {Bs : List β} {F : β -> Option Bool} {P ln : List β} {lf : β -> Nat} {h : β}
end
end MLab
set_option linter.all false
namespace MLab
section
variable {α : Type} [DecidableEq α] {G : α -> List α} {N : List α}
variable (G N) in
def SR (rs : Rs α) (n : Nat) (ns : List α) : Prop := ∀ x ∈ ns, x ∈ N /\ fOf rs x = none /\ Gets G (fOf rs) x n
theorem Val.one {rs : Rs α} {n : Nat} {ns : List α} (v : Val G N rs n) (r : SR G N rs n ns) : Val G N (rs ++ [(n, ns)]) n := by
 refine ⟨fun {x m} h => ?_, fun {x m} h => ?_, fun {x k m} h lt => ?_, fun {x y k} h hy e => ?_, fun {x y k} h hy gt => ?_, fun {x y k m} h hy ey lt => ?_⟩
 . rcases qav h with ⟨h, _⟩ | ⟨_, h, _⟩
   . exact v.inN h
   . exact (r x h).1
 . rcases qav h with ⟨h, _⟩ | ⟨_, _, rfl, _⟩
   . exact v.le h
   . exact Nat.le_refl _
 . rcases qav h with ⟨h, es, _⟩ | ⟨h, hx, rfl, es⟩
   . obtain ⟨y, hy, ey, ly⟩ := v.n1 h lt
     exact ⟨y, hy, f_old ey, by rw [es, (qbw ey).1]; exact ly⟩
   . obtain ⟨y, hy, ey⟩ := (r x hx).2.2.1 m lt
     exact ⟨y, hy, f_old ey, by rw [es, (qbw (n := k) (ns := ns) ey).1]; exact (qbw (n := k) (ns := ns) ey).2⟩
 . rcases qav h with ⟨h, _⟩ | ⟨h, hx, rfl, _⟩
   . rcases qav e with ⟨e, _⟩ | ⟨e1, hy', e2, _⟩
     . exact v.n2 h hy e
     . obtain ⟨z, hz, ez, _⟩ := v.n3 h hy (fun m q => by rw [e1] at q; cases q)
       rw [e2] at ez
       exact (r y hy').2.2.2.1 z hz ez
   . have g := (r x hx).2.2
     rcases qav e with ⟨e, _⟩ | ⟨e, hy', _, _⟩
     . exact g.2.1 y hy e
     . obtain ⟨z, hz, ez⟩ := g.2.2 y hy e
       exact (r y hy').2.2.2.1 z hz ez
 . rcases qav h with ⟨h, es, _⟩ | ⟨h, hx, rfl, es⟩
   . obtain ⟨z, hz, ez, lz⟩ := v.n3 h hy (fun m q => gt m (f_old q))
     exact ⟨z, hz, f_old ez, by rw [es, (qbw ez).1]; exact lz⟩
   . have bare : fOf rs y = none := by
       cases e : fOf rs y with
       | none => rfl
       | some m =>
         have := gt m (f_old e)
         have := v.le e
         omega
     obtain ⟨z, hz, ez⟩ := (r x hx).2.2.2.2 y hy bare
     exact ⟨z, hz, f_old ez, by rw [es, (qbw (n := k) (ns := ns) ez).1]; exact (qbw (n := k) (ns := ns) ez).2⟩
 . rcases qav h with ⟨h, es, _⟩ | ⟨h, hx, rfl, es⟩
   . rcases qav ey with ⟨ey, es', _⟩ | ⟨_, _, em, _⟩
     . rw [es, es']
       exact v.n4 h hy ey lt
     . have := v.le h
       omega
   . rcases qav ey with ⟨ey, es', l'⟩ | ⟨_, _, rfl, _⟩
     . rw [es, es']
       exact l'
     . omega
theorem ep_one {rs : Rs α} {n m : Nat} {ns : List α} (v : Val G N rs n) (r : SR G N rs n ns) (lt : m < n) (h : EP G N rs m) : EP G N (rs ++ [(n, ns)]) m := fun x hx e lo hi => by
 have old : ∀ {z j}, j <= m -> fOf (rs ++ [(n, ns)]) z = some j -> fOf rs z = some j := fun {z j} hj ez => by
   rcases qav ez with ⟨ez, _⟩ | ⟨_, _, rfl, _⟩
   . exact ez
   . omega
 obtain ⟨y, hy, ey, ly⟩ := h x hx (f_none e) (fun j hj => let ⟨y, hy, ey⟩ := lo j hj; ⟨y, hy, old (by omega) ey⟩) (fun y hy ey => hi y hy (f_old ey))
 refine ⟨y, hy, ?_, fun z hz ez => ly z hz (old (Nat.le_refl _) ez)⟩
 cases q : fOf (rs ++ [(n, ns)]) y with
 | none => rfl
 | some k =>
   rcases qav q with ⟨q, _⟩ | ⟨_, hy', rfl, _⟩
   . rw [ey] at q; cases q
   . obtain ⟨z, hz, ez⟩ := (r y hy').2.2.1 m lt
     exact absurd ez (ly z hz)
variable (G N) in
structure Pt (rs : Rs α) (n : Nat) : Prop where
 val : Val G N rs n
 ep : ∀ m, m < n -> EP G N rs m
theorem Pt.nil : Pt G N ([] : Rs α) 0 := ⟨val_nil 0, fun m h => absurd h (Nat.not_lt_zero m)⟩
theorem Pt.one {rs : Rs α} {n : Nat} {ns : List α} (p : Pt G N rs n) (r : SR G N rs n ns) : Pt G N (rs ++ [(n, ns)]) n := ⟨p.val.one r, fun m h => ep_one p.val r h (p.ep m h)⟩
theorem Pt.next {rs : Rs α} {n : Nat} (p : Pt G N rs n) (no : ∀ x ∈ N, fOf rs x = none -> ¬ Gets G (fOf rs) x n) : Pt G N rs (n + 1) := by
 refine ⟨⟨p.val.inN, fun e => Nat.le_succ_of_le (p.val.le e), p.val.n1, p.val.n2, p.val.n3, p.val.n4⟩, fun m h => ?_⟩
 rcases Nat.lt_or_ge m n with c | c
 . exact p.ep m c
 . have : m = n := by omega
   subst this
   exact ep_new ⟨fun x => ⟨fun h => (nomatch h), fun ⟨a, b, c⟩ => absurd c (no x a b)⟩, List.nil_sublist _⟩
theorem Pt.lab (cl : ∀ x ∈ N, ∀ y ∈ G x, y ∈ N) {rs : Rs α} {n : Nat} (p : Pt G N rs n) (big : ∀ x ∈ N, fOf rs x = none -> ¬ ∀ j, j < n -> ∃ y ∈ G x, fOf rs y = some j) : Lab G (· ∈ N) (fOf rs) (sOf rs) := by
 refine ⟨fun {x y} hx hy => cl x hx y hy, fun {x n m} _ => p.val.n1, fun {x y n} _ => p.val.n2, fun {x y n} _ => p.val.n3, fun {x y n m} _ => p.val.n4, fun {x m} hx e lo hi => ?_⟩
 rcases Nat.lt_or_ge m n with c | c
 . exact p.ep m c x hx e lo hi
 . exact absurd (fun j hj => lo j (by omega)) (big x hx e)
theorem lab_eq {ok : α -> Prop} {num num' : α -> Option Nat} {stp stp' : α -> Nat} (L : Lab G ok num stp) (L' : Lab G ok num' stp') {x : α} (hx : ok x) : num x = num' x := by
 have h : ∀ h, num x = some h ↔ num' x = some h := fun h => (lost_ladder L hx).symm.trans (lost_ladder L' hx)
 cases e : num x with
 | some n => exact ((h n).mp e).symm
 | none =>
   cases e' : num' x with
   | none => rfl
   | some n => rw [(h n).mpr e'] at e; cases e
end
end MLab
set_option Elab.async false
set_option linter.all false
set_option maxRecDepth 100000
set_option maxHeartbeats 4000000
namespace Rh
open PySem L2
def top (i : Nat) : Stmt := PySem.Challenge.pw_ringheaps_k52_outcomes_that_moves_leave.main.body.getD i (.Pass ⟨0, 0, 0, 0⟩)
abbrev sName : Stmt := top 13
abbrev sCell : Stmt := top 61
abbrev sSource : Stmt := top 62
abbrev sTake : Stmt := top 63
abbrev sNames : Stmt := top 64
abbrev sLeads : Stmt := top 65
abbrev sRows : Stmt := top 66
abbrev sLaw : Stmt := top 74
end Rh
namespace Rh
open PySem L2 PyProof.Rows
structure Has (K : PySem.W.Frag) (mg : Str -> Option Value) (x : Str) (st : Stmt) (ps : List Str) (f : Addr) (fd : FuncData) : Prop where
 fn : Fun K x x st f fd
 ns : mg x = some (.ref f)
 bi : Binds K fd ps []
theorem je_f {X : Cx} {x : Str} {st : Stmt} {ps : List Str} {f : Addr} {fd : FuncData} {k : Nat} {sp : Sp} {e : Expr} {es : List Expr} {t : TA} {p pos : Pos} (h : Has X.K X.mg x st ps f fd) (G : FnOk X.prog X.w X.K X.mg X.base CX0 k f fd ps sp) (hr : Room k X.A)
   (hg : Gl X x) (ha : JA X (e :: es) t) (hdb : (x == ("__debug__" : Str)) = false := by decide) (he : starEach (e :: es) X.env = (false, eval e X.env) :: starEach es X.env := by rfl) (hpl : (backTo pos (starEach es X.env)).any (·.1) = false := by rfl) :
   JE X (.Call (.Name x p) (e :: es) [] pos) (tCall sp [] E0 t) := .of (pe_call G hr hg h.ns h.fn.kp h.bi .nil pass0 ha.to hdb he hpl)
theorem qai {H : Hp} {b p : Addr} {o o' : HO} (h : H b = some o) (hp : H p = none) : upd H p o' b = some o := by
 rw [qah (qam h hp)]
 exact h
theorem qaf {H : Hp} {p : Addr} {o : HO} (hp : H p = none) : Same H (upd H p o) := fun b u h => qai h hp
theorem Same.upd {H H' : Hp} {p : Addr} {o : HO} (s : Same H H') (hp : H p = none) : Same H (upd H' p o) := fun b u h => by
 rw [qah (qam h hp)]
 exact s b u h
def src (n s t : Int) : List (Key × V) := [(Sum.inr "number", .int n), (Sum.inr "seed", .int s), (Sum.inr "turn", .int t)]
theorem nns : ¬ (Str.ofString "number") = Str.ofString "seed" := by decide +kernel
theorem nnt : ¬ (Str.ofString "number") = Str.ofString "turn" := by decide +kernel
theorem nst : ¬ (Str.ofString "seed") = Str.ofString "turn" := by decide +kernel
theorem nsn : ¬ (Str.ofString "seed") = Str.ofString "number" := by decide +kernel
theorem ntn : ¬ (Str.ofString "turn") = Str.ofString "number" := by decide +kernel
theorem nts : ¬ (Str.ofString "turn") = Str.ofString "seed" := by decide +kernel
theorem inrNe {a b : Str} (h : ¬ a = b) : ¬ (Sum.inr a : Key) = Sum.inr b := fun e => h (Sum.inr.inj e)
section
variable {H : Hp} {d : Addr} {n s t : Int}
theorem gN (h : H d = some (.dK (src n s t))) : DGet H d (.str "number") (some (.int n)) := by
 have e : valV (src n s t) (Sum.inr "number" : Key) = some (.int n) := qay rfl
 have q := DGet.k (k := (Sum.inr "number" : Key)) h
 rw [e] at q
 exact q
theorem gS (h : H d = some (.dK (src n s t))) : DGet H d (.str "seed") (some (.int s)) := by
 have e : valV (src n s t) (Sum.inr "seed" : Key) = some (.int s) := (qaz (inrNe nns)).trans (qay rfl)
 have q := DGet.k (k := (Sum.inr "seed" : Key)) h
 rw [e] at q
 exact q
theorem gT (h : H d = some (.dK (src n s t))) : DGet H d (.str "turn") (some (.int t)) := by
 have e : valV (src n s t) (Sum.inr "turn" : Key) = some (.int t) := (qaz (inrNe nnt)).trans ((qaz (inrNe nst)).trans (qay rfl))
 have q := DGet.k (k := (Sum.inr "turn" : Key)) h
 rw [e] at q
 exact q
theorem src3 : (src n s t).length < sizeLine := small1000 (by show 3 <= 1000; decide)
theorem pN (h : H d = some (.dK (src n s t))) (v : Int) : DPut H d (.str "number") (.int v) (upd H d (.dK (src v s t))) := by
 have e : putK (src n s t) (Sum.inr "number" : Key) (.int v) = src v s t := by
   unfold putK src
   simp [nsn, ntn]
 have q := DPut.k (k := (Sum.inr "number" : Key)) (v := .int v) h src3
 rw [e] at q
 exact q
theorem pT (h : H d = some (.dK (src n s t))) (v : Int) : DPut H d (.str "turn") (.int v) (upd H d (.dK (src n s v))) := by
 have e : putK (src n s t) (Sum.inr "turn" : Key) (.int v) = src n s v := by
   unfold putK src
   simp [nnt, nst]
 have q := DPut.k (k := (Sum.inr "turn" : Key)) (v := .int v) h src3
 rw [e] at q
 exact q
end
def spTake : Sp := fun vs H Q _ => ∃ (d : Addr) (m n s t : Int), vs = [.ref d, .int m] /\ H d = some (.dK (src n s t)) /\ 0 < m /\ m.natAbs < 2 ^ 200 /\ ∀ r n' t', 0 <= r -> r < m -> Q (.int r) (upd H d (.dK (src n' s t')))
def spSource : Sp := fun vs H Q _ => ∃ c : Int, vs = [.int c] /\ ∀ d n s, H d = none -> Q (.ref d) (upd H d (.dK (src n s 0)))
def spCell (K : PySem.W.Frag) : Sp := fun vs H Q _ => ∃ (a : Addr) (ns : List Int) (k : Int), vs = [.ref a, .int k] /\ SqL K H a (ns.map V.int) /\ 0 <= k /\ ∀ v, Q (.int v) H
section
variable {P : Program} {w : World} {K : PySem.W.Frag} {mg : Str -> Option Value} {base : Heap}
theorem scTake : FnScope ["_law_source_here", "_law_many", "_law_digit", "_law_number"] ["_law_source_here", "_law_many"] (defScope sTake) := ⟨rfl, rfl, rfl, by decide +kernel, rfl, by decide +kernel, by decide +kernel⟩
theorem ok_take {f : Addr} {fd : FuncData} (F : Fun K "_law_take" "_law_take" sTake f fd) : FnOk P w K mg base CX0 1 f fd ["_law_source_here", "_law_many"] spTake := by
 refine F.okJ scTake (fun vs H Q E h => ?_) (fun cdv A outer s H vs Q E hr h => ?_)
 . obtain ⟨d, m, n, sd, t, rfl, _⟩ := h
   rfl
 . obtain ⟨d, m, n, sd, t, rfl, hd, m0, m1, k⟩ := h
   have hu := hu_of hr
   refine ⟨_, qac (qba (qak op_gt (qbd hu (jv 0) qat (fun _ _ => rfl)) qag (nomark _))
       (qac (qao (i := 2) scTake.nd rfl (Or.inl rfl) (qau op_mod (qbd hu (jv 0) qat (fun _ _ => rfl)) (jv 1)))
       (qac (qbi hu (jv 0) qat (qau op_fdivB (qbd hu (jv 0) qat (fun _ _ => rfl)) (jv 1)) rfl)
       (qae (qal (jv 2))))) qap)
     (qac (qbi hu (jv 0) qat (qau op_add (qbd hu (jv 0) qat (fun _ _ => rfl)) qag) rfl)
     (qac (qao (i := 3) scTake.nd rfl (Or.inl rfl) (qau op_mod (qau op_mul (qau op_add (qbd hu (jv 0) qat (fun _ _ => rfl)) (qau op_mul qag (qbd hu (jv 0) qat (fun _ _ => rfl)))) qag) qag))
     (qac (qao (i := 3) scTake.nd rfl (Or.inl rfl) (qau op_mod (qau op_mul (jv 3) (jv 3)) qag))
     (qae (qal (qau op_mod (qau op_fdiv (qau op_mod (qau op_mul (qau op_add (jv 3) (qbd hu (jv 0) qat (fun _ _ => rfl))) (qau op_add (jv 3) qag)) qag) qag) (jv 1))))))), ?_⟩
   refine ⟨_, rfl, d, _, rfl, gN hd, _, _, rfl, rfl, _, rfl, ?_⟩
   refine ite2 (fun _ => ?_) (fun _ => ?_)
   . refine ⟨_, rfl, d, _, rfl, gN hd, _, rfl, _, _, rfl, rfl, m0, ?_⟩
     refine ⟨_, rfl, d, _, rfl, gN hd, _, rfl, _, _, rfl, rfl, ⟨m0, m1⟩, _, rfl, d, _, rfl, pN hd _, ?_⟩
     exact ⟨_, rfl, k _ _ _ (Int.emod_nonneg _ (by omega)) (Int.emod_lt_of_pos _ m0)⟩
   . refine ⟨_, rfl, d, _, rfl, gT hd, _, _, rfl, rfl, _, rfl, d, _, rfl, pT hd _, ?_⟩
     have h1 : upd H d (.dK (src n sd (t + 1))) d = some (.dK (src n sd (t + 1))) := qab
     refine ⟨_, rfl, d, _, rfl, gS h1, _, rfl, d, _, rfl, gT h1, _, _, rfl, rfl, .inl ⟨by decide, by decide⟩, _, _, rfl, rfl, _, _, rfl, rfl, .inr ⟨by decide, by decide⟩, _, _, rfl, rfl, (by show (0 : Int) < 2147483647; decide), ?_⟩
     generalize ha : ((sd + 7919 * (t + 1)) * 48271) % 2147483647 = x
     have x0 : 0 <= x := by rw [← ha]; exact Int.emod_nonneg _ (by decide)
     have x1 : x < 2147483647 := by rw [← ha]; exact Int.emod_lt_of_pos _ (by decide)
     refine ⟨_, rfl, _, rfl, _, _, rfl, rfl, .inl ⟨by omega, by omega⟩, _, _, rfl, rfl, (by show (0 : Int) < 2147483629; decide), ?_⟩
     generalize hb : (x * x) % 2147483629 = y
     have y0 : 0 <= y := by rw [← hb]; exact Int.emod_nonneg _ (by decide)
     have y1 : y < 2147483629 := by rw [← hb]; exact Int.emod_lt_of_pos _ (by decide)
     refine ⟨_, rfl, _, rfl, d, _, rfl, gT h1, _, _, rfl, rfl, _, rfl, _, _, rfl, rfl, _, _, rfl, rfl, .inr ⟨by omega, by omega⟩, _, _, rfl, rfl, (by show (0 : Int) < 2147483587; decide), _, _, rfl, rfl, ⟨by decide, by decide⟩, _, rfl, _, _, rfl, rfl, m0, ?_⟩
     exact k _ _ _ (Int.emod_nonneg _ (by omega)) (Int.emod_lt_of_pos _ m0)
end
end Rh
namespace Rh
open PySem L2 PyProof.Rows
structure Blt (mg : Str -> Option Value) : Prop where
 len : mg "len" = none
 max : mg "max" = none
 min : mg "min" = none
 int : mg "int" = none
 rng : mg "range" = none
theorem merge_src (n s t : Int) : mergeK [] (src n s t) = src n s t := by
 unfold mergeK src
 simp only [List.foldl_cons, List.foldl_nil]
 unfold putK
 simp [nns, nnt, nst, nsn, ntn, nts]
section
variable {P : Program} {w : World} {K : PySem.W.Frag} {mg : Str -> Option Value} {base : Heap}
theorem scSource : FnScope ["_law_cell"] ["_law_cell"] (defScope sSource) := ⟨rfl, rfl, rfl, by decide +kernel, rfl, by decide +kernel, by decide +kernel⟩
theorem ok_source {f : Addr} {fd : FuncData} (F : Fun K "_law_source" "_law_source" sSource f fd) (B : Blt mg) : FnOk P w K mg base CX0 1 f fd ["_law_cell"] spSource := by
 refine F.okJ scSource (fun vs H Q E h => ?_) (fun cdv A outer s H vs Q E hr h => ?_)
 . obtain ⟨c, rfl, _⟩ := h
   rfl
 . obtain ⟨c, rfl, k⟩ := h
   refine ⟨_, qae (qal (je_disp
     (jps_cons qat (qau op_mul (qan (call_max2 rfl) (by rfl) B.max boot_max (qaa qag (qaa (jv 0) qad)))
       (qbn call_int1 (by rfl) B.int boot_int (qaa (qcn op_ge (jv 0) (qau op_pow qag qag) (nomark _)) qad)))
     (jps_cons qat (qau op_mod (jv 0) qag) (jps_cons qat qag jps_nil))) rfl rfl (by simp) (by decide))), ?_⟩
   intro p hp
   refine ⟨_, rfl, _, _, rfl, _, rfl, _, _, rfl, rfl, ⟨by decide, by decide, by decide⟩, _, _, rfl, rfl, .inr ⟨_, rfl, _, _, rfl, rfl, .inr ?_, _, rfl, _, _, rfl, rfl, (by show (0 : Int) < 2147483629; decide), ?_⟩⟩
   . split <;> exact ⟨by decide, by decide⟩
   . refine ⟨qab, src _ _ 0, rfl, (by show 3 <= 15; decide), ?_⟩
     rw [merge_src, qbl]
     exact k p _ _ hp
theorem scCell : FnScope ["_law_script", "_law_k"] ["_law_script", "_law_k"] (defScope sCell) := ⟨rfl, rfl, rfl, by decide +kernel, rfl, by decide +kernel, by decide +kernel⟩
theorem ok_cell {f : Addr} {fd : FuncData} (F : Fun K "_law_cell_at" "_law_cell_at" sCell f fd) (B : Blt mg) : FnOk P w K mg base CX0 1 f fd ["_law_script", "_law_k"] (spCell K) := by
 refine F.okJ scCell (fun vs H Q E h => ?_) (fun cdv A outer s H vs Q E hr h => ?_)
 . obtain ⟨a, ns, k, rfl, _⟩ := h
   rfl
 . obtain ⟨a, ns, k, rfl, hS, k0, q⟩ := h
   refine ⟨_, qac (qba (qak op_lt (jv 1) (qan qas (by rfl) B.len boot_len (qaa (jv 0) qad)) (nomark _))
       (qae (qal (qbs qcq (jv 0) (jv 1) (fun _ _ => rfl)))) qap)
     (qae (qal (qau op_add (qau op_mul qag (jv 1)) qag))), ?_⟩
   refine ⟨_, rfl, _, rfl, a, _, rfl, .inl hS, _, _, rfl, rfl, _, rfl, ?_⟩
   refine ite2 (fun h => ?_) (fun _ => ?_)
   . have h1 : k < ((ns.map V.int).length : Int) := of_decide_eq_true h
     rw [List.length_map] at h1
     have h2 : k.toNat < ns.length := by omega
     have h3 : (ns.map V.int)[k.toNat]? = some (V.int ns[k.toNat]) := by rw [List.getElem?_map, List.getElem?_eq_getElem h2]; rfl
     have h4 : k = ((k.toNat : Nat) : Int) := by omega
     refine ⟨_, rfl, _, rfl, a, _, k, V.int ns[k.toNat], rfl, rfl, hS, ?_, q _⟩
     have h5 := atI_nat h3
     rw [← h4] at h5
     exact h5
   . exact ⟨_, rfl, _, _, rfl, rfl, .inl ⟨by decide, by decide⟩, _, _, rfl, rfl, q _⟩
end
end Rh
set_option Elab.async false
set_option linter.all false
set_option maxRecDepth 100000
set_option maxHeartbeats 4000000
namespace Rh
open PySem L2 PyProof.Rows
def Fr (H : Hp) (d : Addr) (H' : Hp) : Prop := ∀ b o, H b = some o -> b ≠ d -> H' b = some o
theorem Fr.refl {H : Hp} {d : Addr} : Fr H d H := fun _ _ h _ => h
theorem Fr.at_d {H H' : Hp} {d : Addr} {o : HO} (h : Fr H d H') : Fr H d (upd H' d o) := fun b u hb hn => by
 rw [qah hn]
 exact h b u hb hn
theorem Fr.new {H H' : Hp} {d p : Addr} {o : HO} (h : Fr H d H') (hp : H' p = none) : Fr H d (upd H' p o) := fun b u hb hn => qai (h b u hb hn) hp
theorem Fr.own {H H' : Hp} {d p : Addr} {o : HO} (h : Fr H d H') (hp : H p = none) : Fr H d (upd H' p o) := fun b u hb hn => by
 rw [qah (qam hb hp)]
 exact h b u hb hn
theorem Fr.trans {H H' H'' : Hp} {d : Addr} (h : Fr H d H') (k : Fr H' d H'') : Fr H d H'' := fun b u hb hn => k b u (h b u hb hn) hn
theorem Fr.fresh {H H' : Hp} {d p : Addr} {o : HO} (h : Fr H d H') (hd : H' d = some o) (hp : H' p = none) : H p = none := by
 cases e : H p with
 | none => rfl
 | some u =>
   by_cases n : p = d
   . subst n
     rw [hd] at hp
     cases hp
   . rw [h p u e n] at hp
     cases hp
def letter (c : Nat) : Bool := decide (97 <= c) && decide (c <= 122)
def isName (z : Str) : Bool := (decide (1 <= z.length) && decide (z.length <= 8)) && z.cps.toList.all letter
def abc : Str := "abcdefghijklmnopqrstuvwxyz"
theorem abc_codes : abc.cps.toList = [97, 98, 99, 100, 101, 102, 103, 104, 105, 106, 107, 108, 109, 110, 111, 112, 113, 114, 115, 116, 117, 118, 119, 120, 121, 122] := by decide +kernel
theorem abc_up : abc.cps.toList = (List.range 26).map (97 + ·) := by rw [abc_codes]; rfl
theorem abc_len : abc.length <= sizeLine := by
 show abc.cps.size <= sizeLine
 rw [← Array.length_toList, abc_codes]
 decide
theorem abc_at {r : Int} (h0 : 0 <= r) (h1 : r < 26) : atI abc.cps.toList r = some (97 + r.toNat) := by
 have h2 : abc.cps.toList[r.toNat]? = some (97 + r.toNat) := by
   rw [abc_up, List.getElem?_map, List.getElem?_range (by omega)]
   rfl
 have h4 := atI_nat h2
 have h5 : r = ((r.toNat : Nat) : Int) := by omega
 rw [← h5] at h4
 exact h4
theorem letter_of {r : Int} (h0 : 0 <= r) (h1 : r < 26) : letter (97 + r.toNat) = true := by
 unfold letter
 rw [decide_eq_true (by omega : 97 <= 97 + r.toNat), decide_eq_true (by omega : 97 + r.toNat <= 122)]
 rfl
theorem joined (ws : List Nat) : (Txt.join (Str.ofString "") (ws.map fun k => (⟨#[k]⟩ : Str))).cps.toList = ws := by
 show (Builtin.Str.glued (Str.ofString "") _).cps.toList = _
 rw [StrLaws.glued_eq_join]
 have e : (Str.ofString "") = ⟨#[]⟩ := by decide +kernel
 rw [e, PyProof.Rows.join_ones]
theorem isName_of {z : Str} {A B : List Nat} {c : Nat} (e : z.cps.toList = A ++ [c] ++ B) (hA : A.all letter = true) (hc : letter c = true) (hB : B.all letter = true) (hl : A.length + B.length <= 7) : isName z = true := by
 have l : z.length = A.length + 1 + B.length := by
   show z.cps.size = _
   rw [← Array.length_toList, e]
   simp
   omega
 unfold isName
 rw [decide_eq_true (by omega : 1 <= z.length), decide_eq_true (by omega : z.length <= 8), e, List.all_append, List.all_append, hA, hB]
 simp [hc]
def nth (f s : Int) (k : Nat) : Nat := 97 + ((f + s * (k : Int)) % 26).toNat
theorem nth_fin : ∀ s ∈ [(1 : Int), 3, 5, 7, 9, 11], ∀ k, k < 14 -> ∀ j, j < 14 -> (s * ((k : Nat) : Int) - s * ((j : Nat) : Int)) % 26 = 0 -> k = j := by decide +kernel
theorem nth_inj {f s : Int} {k j : Nat} (hs : s = 1 ∨ s = 3 ∨ s = 5 ∨ s = 7 ∨ s = 9 ∨ s = 11) (hk : k < 14) (hj : j < 14) (h : nth f s k = nth f s j) : k = j := by
 unfold nth at h
 refine nth_fin s (by simpa using hs) k hk j hj ?_
 generalize s * (k : Int) = x at h ⊢
 generalize s * (j : Int) = y at h ⊢
 omega
def NamesTo (A : List Nat) (f s : Int) (zs : List Str) : Prop := ∀ j z, zs[j]? = some z -> ∃ B, z.cps.toList = A ++ [nth f s j] ++ B /\ B.all letter = true /\ A.length + B.length <= 7
theorem NamesTo.snoc {A : List Nat} {f s : Int} {zs : List Str} (h : NamesTo A f s zs) {z : Str} {B : List Nat} (e : z.cps.toList = A ++ [nth f s zs.length] ++ B) (hB : B.all letter = true) (hl : A.length + B.length <= 7) : NamesTo A f s (zs ++ [z]) := by
 intro j y hy
 by_cases hj : j < zs.length
 . rw [List.getElem?_append_left hj] at hy
   exact h j y hy
 . have hj' : j = zs.length := by
     have := (List.getElem?_eq_some_iff.mp hy).1
     rw [List.length_append, List.length_singleton] at this
     omega
   subst hj'
   rw [List.getElem?_append_right (Nat.le_refl _), Nat.sub_self] at hy
   obtain rfl := (Option.some.inj hy).symm
   exact ⟨B, e, hB, hl⟩
theorem NamesTo.names {A : List Nat} {f s : Int} {zs : List Str} (h : NamesTo A f s zs) (hA : A.all letter = true) : ∀ z ∈ zs, isName z = true := fun z hz => by
 obtain ⟨j, hj⟩ := List.getElem?_of_mem hz
 obtain ⟨B, e, hB, hl⟩ := h j z hj
 refine isName_of e hA ?_ hB hl
 unfold nth
 exact letter_of (Int.emod_nonneg _ (by decide)) (Int.emod_lt_of_pos _ (by decide))
theorem NamesTo.nodup {A : List Nat} {f s : Int} {zs : List Str} (h : NamesTo A f s zs) (hs : s = 1 ∨ s = 3 ∨ s = 5 ∨ s = 7 ∨ s = 9 ∨ s = 11) (hz : zs.length <= 14) : zs.Nodup := by
 refine List.pairwise_iff_getElem.mpr fun i j hi hj hij e => ?_
 obtain ⟨B, b1, _⟩ := h j _ (List.getElem?_eq_getElem hj)
 obtain ⟨C, c1, _⟩ := h i _ (List.getElem?_eq_getElem hi)
 rw [e] at c1
 have e2 : (A ++ [nth f s j] ++ B)[A.length]? = (A ++ [nth f s i] ++ C)[A.length]? := by rw [← b1, ← c1]
 rw [List.append_assoc, List.append_assoc, List.getElem?_append_right (Nat.le_refl _), List.getElem?_append_right (Nat.le_refl _), Nat.sub_self] at e2
 have e3 : nth f s j = nth f s i := Option.some.inj e2
 exact absurd (nth_inj hs (by omega) (by omega) e3) (by omega)
theorem all_take {A : List Nat} (h : A.all letter = true) (n : Nat) : (A.take n).all letter = true := by
 rw [List.all_eq_true] at h ⊢
 exact fun x hx => h x (List.mem_of_mem_take hx)
theorem six_at {r : Int} (h0 : 0 <= r) (h1 : r < 6) : ∃ m : Int, (m = 1 ∨ m = 3 ∨ m = 5 ∨ m = 7 ∨ m = 9 ∨ m = 11) /\ atI [V.int 1, V.int 3, V.int 5, V.int 7, V.int 9, V.int 11] r = some (.int m) := by
 have : r = 0 ∨ r = 1 ∨ r = 2 ∨ r = 3 ∨ r = 4 ∨ r = 5 := by omega
 rcases this with rfl | rfl | rfl | rfl | rfl | rfl
 . exact ⟨1, by decide, rfl⟩
 . exact ⟨3, by decide, rfl⟩
 . exact ⟨5, by decide, rfl⟩
 . exact ⟨7, by decide, rfl⟩
 . exact ⟨9, by decide, rfl⟩
 . exact ⟨11, by decide, rfl⟩
def spNames : Sp := fun vs H Q _ => ∃ (d : Addr) (m : Nat) (n s t : Int), vs = [.ref d, .int m] /\ H d = some (.dK (src n s t)) /\ m <= 14 ∧
 ∀ (l : Addr) (zs : List Str) (n' t' : Int) (H' : Hp), H l = none -> H' l = some (.lst (zs.map V.str)) -> zs.length = m -> (∀ z ∈ zs, isName z = true) -> zs.Nodup -> H' d = some (.dK (src n' s t')) -> Fr H d H' -> Q (.ref l) H'
theorem sum_ones : ∀ zs : List Str, (zs.map fun _ => 1).sum = zs.length
 | [] => rfl
 | z :: zs => by rw [List.map_cons, List.sum_cons, sum_ones zs, List.length_cons]; omega
section
variable {P : Program} {w : World} {K : PySem.W.Frag} {mg : Str -> Option Value} {base : Heap}
abbrev nNames : List Str := ["_law_source_here", "_law_many", "_law_letters", "_law_word", "_law_ahead", "_law_first", "_law_step", "_law_names_here", "_law_k", "_law_behind"]
theorem scNames : FnScope nNames ["_law_source_here", "_law_many"] (defScope sNames) := ⟨rfl, rfl, rfl, by decide +kernel, rfl, by decide +kernel, by decide +kernel⟩
theorem ok_names {f fT : Addr} {fd fdT : FuncData} (F : Fun K "_law_names" "_law_names" sNames f fd) (B : Blt mg) (hT : Has K mg "_law_take" sTake ["_law_source_here", "_law_many"] fT fdT) : FnOk P w K mg base CX0 2 f fd ["_law_source_here", "_law_many"] spNames := by
 have GT : FnOk P w K mg base CX0 1 fT fdT ["_law_source_here", "_law_many"] spTake := ok_take hT.fn
 refine F.okJ scNames (fun vs H Q E h => ?_) (fun cdv A outer s H vs Q E hr h => ?_)
 . obtain ⟨d, m, n, sd, t, rfl, _⟩ := h
   rfl
 . obtain ⟨d, m, n, sd, t, rfl, hd, hm, q⟩ := h
   refine ⟨_, qac (qao (i := 2) scNames.nd rfl (Or.inr rfl) qat)
     (qac (qao (i := 3) scNames.nd rfl (Or.inl rfl) (je_bm PySem.F.plainAttrs_str PySem.F.slot_str_join PySem.F.type_str_join mt_join qat (qaa
       (qcg (N' := ["_law_k", "_law_letters", "_law_source_here"]) (ix := [none, some 2, some 0]) rfl ⟨rfl, rfl, rfl, rfl, rfl⟩
         (qaw (by rfl) B.rng (qaa qag qad))
         (fun C s2 H2 fp pins => ⟨qaj (i := 0) (show (["_law_k", "_law_letters", "_law_source_here"] : List Str).Nodup by decide +kernel) rfl (Or.inl rfl), qbo,
           qbs ix_str (jv 1) (je_f hT GT hr (by rfl) (qaa (jv 2) (qaa qag qad))) (fun _ _ => rfl)⟩)) qad)))
     (qac (qao (i := 4) scNames.nd rfl (Or.inl rfl) (je_slice sl_str (jv 3) jo_none (jo_some (qau op_mul (je_f hT GT hr (by rfl) (qaa (jv 0) (qaa qag qad))) (je_f hT GT hr (by rfl) (qaa (jv 0) (qaa qag qad)))))))
     (qac (qao (i := 5) scNames.nd rfl (Or.inl rfl) (je_f hT GT hr (by rfl) (qaa (jv 0) (qaa qag qad))))
     (qac (qao (i := 6) scNames.nd rfl (Or.inl rfl) (qbs qcq (qck (qaa qag (qaa qag (qaa qag (qaa qag (qaa qag (qaa qag qad))))))) (je_f hT GT hr (by rfl) (qaa (jv 0) (qaa qag qad))) (fun _ _ => rfl)))
     (qac (qao (i := 7) scNames.nd rfl (Or.inl rfl) (qck qad))
     (qac (qbf PassesOwn.never rfl (qaw (by rfl) B.rng (qaa (jv 1) qad)) (qaj (i := 8) scNames.nd rfl (Or.inl rfl))
       (qac (qao (i := 9) scNames.nd rfl (Or.inl rfl) (je_slice sl_str (jv 3) jo_none (jo_some (je_f hT GT hr (by rfl) (qaa (jv 0) (qaa (qau op_sub qag (qan call_len_str (by rfl) B.len boot_len (qaa (jv 4) qad))) qad))))))
       (qae (qbp (je_bm PySem.F.plainAttrs_list PySem.F.slot_list_append PySem.F.type_list_append mt_append (jv 7) (qaa
         (qau op_add_str (qau op_add_str (jv 4) (qbs ix_str (jv 2) (qau op_mod (qau op_add (jv 5) (qau op_mul (jv 6) (jv 8))) qag) (fun _ _ => rfl))) (jv 9)) qad))))))
     (qae (qal (jv 7))))))))), ?_⟩
   refine ⟨rfl, 7, rfl, by decide, by decide, fun D hD => ?_⟩
   have nDd : D ≠ d := fun e => by rw [e, hd] at hD; cases hD
   refine blk_range (fun i σ' H' => ∃ (v : Option V) (n' t' : Int) (ws : List Nat), σ' = [v, some (.str abc), some (.ref d)] /\ H' d = some (.dK (src n' sd t')) /\ H' D = some (.lst ((ws.map fun k => (⟨#[k]⟩ : Str)).map V.str)) /\ ws.length = i /\ ws.all letter = true /\ Fr H d H')
     ⟨none, n, t, [], rfl, qai hd hD, qab, rfl, rfl, Fr.refl.new hD⟩ ?_ ?_
   . rintro i σ' H' hi ⟨v, n', t', ws, rfl, hd', hD', hl, ha, fr⟩
     refine ⟨_, rfl, _, rfl, d, 26, n', sd, t', rfl, hd', by decide, by decide, fun r n3 t3 r0 r1 => ?_⟩
     refine ⟨abc, r, _, rfl, rfl, abc_len, abc_at r0 r1, _, (by rw [qah nDd]; exact hD'), ?_, ?_⟩
     . rw [List.length_map, List.length_map, hl]
       exact small1000 (by omega)
     . refine ⟨_, n3, t3, ws ++ [97 + r.toNat], rfl, ?_, ?_, ?_, ?_, ?_⟩
       . rw [qah (Ne.symm nDd)]; exact qab
       . rw [List.map_append, List.map_append]; exact qab
       . rw [List.length_append, hl]; rfl
       . rw [List.all_append, ha]
         simp [letter_of r0 r1]
       . exact (fr.at_d).own hD
   rintro σ' H1 ⟨v, n1, t1, ws, rfl, hd1, hD1, hl1, ha1, fr1⟩
   have hl1 : ws.length = 7 := hl1
   refine ⟨Str.ofString "", D, _, rfl, rfl, .of hD1, ?_, ?_⟩
   . have e1 : ((ws.map fun k => (⟨#[k]⟩ : Str)).map (·.length)) = (ws.map fun k => (⟨#[k]⟩ : Str)).map fun _ => 1 := by
       refine List.map_congr_left fun z hz => ?_
       obtain ⟨c, _, rfl⟩ := List.mem_map.mp hz
       rfl
     have e2 : (Str.ofString "").length = 0 := by decide +kernel
     rw [e1, e2, sum_ones, List.length_map, hl1]
     decide
   generalize hw : Txt.join (Str.ofString "") (ws.map fun k => (⟨#[k]⟩ : Str)) = wd
   have hW : wd.cps.toList = ws := by rw [← hw]; exact joined ws
   have hWl : wd.length = 7 := by
     show wd.cps.size = 7
     rw [← Array.length_toList, hW, hl1]
   refine ⟨_, rfl, _, rfl, d, 2, n1, sd, t1, rfl, hd1, by decide, by decide, fun r2 n2 t2 r20 r21 => ?_⟩
   refine ⟨_, rfl, d, 5, n2, sd, t2, rfl, qab, by decide, by decide, fun r3 n3 t3 r30 r31 => ?_⟩
   rw [qbl]
   have e4 : ∃ j : Nat, r2 * r3 = (j : Int) /\ j <= 4 := by
     have h2 : r2 = 0 ∨ r2 = 1 := by omega
     rcases h2 with rfl | rfl
     . exact ⟨0, by omega, by omega⟩
     . exact ⟨r3.toNat, by omega, by omega⟩
   obtain ⟨j, ej, hj⟩ := e4
   refine ⟨_, _, rfl, rfl, .inl ⟨by omega, by omega⟩, _, rfl, wd, r2 * r3, rfl, rfl, rfl, by omega, ?_⟩
   rw [ej]
   generalize ha : Txt.slice wd none (some (j : Int)) = ah
   have hA : ah.cps.toList = ws.take j := by rw [← ha, slice_take, hW]
   have hAl : ah.length = j := by
     show ah.cps.size = j
     rw [← Array.length_toList, hA, List.length_take, hl1]
     omega
   refine ⟨_, rfl, d, 26, n3, sd, t3, rfl, qab, by decide, by decide, fun f n4 t4 f0 f1 => ?_⟩
   rw [qbl]
   refine ⟨by show 6 <= sizeLine; decide, fun p hp => ?_⟩
   have npd : p ≠ d := fun e => by rw [e, qab] at hp; cases hp
   refine ⟨_, rfl, d, 6, n4, sd, t4, rfl, (by rw [qah (Ne.symm npd)]; exact qab), by decide, by decide, fun r5 n5 t5 r50 r51 => ?_⟩
   obtain ⟨st, hst, hsa⟩ := six_at r50 r51
   refine ⟨p, _, r5, .int st, rfl, rfl, .of (by rw [qah npd]; exact qab), hsa, ?_⟩
   have fr5 : Fr H d (upd (upd (upd H1 d (.dK (src n4 sd t4))) p (.lst [V.int 1, V.int 3, V.int 5, V.int 7, V.int 9, V.int 11])) d (.dK (src n5 sd t5))) := (fr1.at_d.new hp).at_d
   generalize hH5 : upd (upd (upd H1 d (.dK (src n4 sd t4))) p (.lst [V.int 1, V.int 3, V.int 5, V.int 7, V.int 9, V.int 11])) d (.dK (src n5 sd t5)) = H5 at fr5
   have hd5 : H5 d = some (.dK (src n5 sd t5)) := by rw [← hH5]; exact qab
   refine ⟨by show 0 <= sizeLine; decide, fun l hl => ⟨_, rfl, m, rfl, by omega, by omega, ?_⟩⟩
   have hHl : H l = none := fr5.fresh hd5 hl
   have nld : l ≠ d := fun e => by rw [e, hd5] at hl; cases hl
   refine qcc (lo := 0) (n := m) (fun i σ' H' => ∃ (v1 v2 : Option V) (n' t' : Int) (zs : List Str), σ' = [some (.ref d), some (.int m), some (.str abc), some (.str wd), some (.str ah), some (.int f), some (.int st), some (.ref l), v1, v2] ∧
     H' d = some (.dK (src n' sd t')) /\ H' l = some (.lst (zs.map V.str)) /\ zs.length = i /\ NamesTo (ws.take j) f st zs /\ Fr H d H')
     ⟨none, none, n5, t5, [], rfl, qai hd5 hl, qab, rfl, fun j z hz => (nomatch hz), fr5.new hl⟩ ?_ ?_
   . rintro i σ' H' hi ⟨v1, v2, n', t', zs, rfl, hd', hl', hz, hN, fr⟩
     rw [Int.zero_add]
     refine ⟨_, rfl, _, rfl, _, rfl, ah, rfl, (by rw [hAl]; exact Nat.le_of_lt (small1000 (by omega))), _, _, rfl, rfl, d, 8 - (ah.length : Int), n', sd, t', rfl, hd', by omega, by omega, fun r n6 t6 r0 r1 => ?_⟩
     have er : r = ((r.toNat : Nat) : Int) := by omega
     refine ⟨_, rfl, wd, r, rfl, rfl, rfl, by omega, ?_⟩
     generalize hb : Txt.slice wd none (some r) = bh
     have hB : bh.cps.toList = ws.take r.toNat := by rw [← hb, er, slice_take, hW]; rfl
     have hBl : bh.length <= r.toNat := by
       show bh.cps.size <= r.toNat
       rw [← Array.length_toList, hB, List.length_take]
       omega
     refine ⟨_, rfl, .inl ⟨rfl, _, .of (by rw [qah nld]; exact hl')⟩, _, rfl, _, rfl, _, rfl, _, rfl, _, rfl, _, _, rfl, rfl, .inl ⟨by omega, by omega⟩, _, _, rfl, rfl, _, _, rfl, rfl, (by show (0 : Int) < 26; decide), ?_⟩
     refine ⟨abc, _, _, rfl, rfl, abc_len, abc_at (Int.emod_nonneg _ (by decide)) (Int.emod_lt_of_pos _ (by decide)), ?_⟩
     have e26 : 97 + ((f + st * (i : Int)) % 26).toNat = nth f st i := rfl
     rw [e26]
     have l1 : (ah ++ (⟨#[nth f st i]⟩ : Str)).length = j + 1 := by
       show (ah ++ (⟨#[nth f st i]⟩ : Str)).cps.size = _
       rw [Str.cps_append, Array.size_append]
       show ah.length + 1 = _
       rw [hAl]
     refine ⟨_, _, rfl, rfl, Nat.le_of_lt (small1000 (by show ah.length + 1 <= 1000; omega)), _, rfl, _, _, rfl, rfl, Nat.le_of_lt (small1000 (by rw [l1]; omega)), ?_⟩
     refine ⟨l, _, _, rfl, rfl, (by rw [qah nld]; exact hl'), (by rw [List.length_map, hz]; exact small1000 (by omega)), ?_⟩
     refine ⟨_, _, n6, t6, zs ++ [ah ++ (⟨#[nth f st i]⟩ : Str) ++ bh], rfl, ?_, ?_, ?_, ?_, ?_⟩
     . rw [qah (Ne.symm nld)]; exact qab
     . rw [List.map_append]; exact qab
     . rw [List.length_append, hz]; rfl
     . refine hN.snoc (B := ws.take r.toNat) ?_ (all_take ha1 _) ?_
       . rw [Str.cps_append, Str.cps_append, Array.toList_append, Array.toList_append, hA, hB, hz]
       . rw [List.length_take, List.length_take]
         omega
     . exact fr.at_d.own hHl
   . rintro σ' H' ⟨v1, v2, n', t', zs, rfl, hd', hl', hz, hN, fr⟩
     exact ⟨_, rfl, q l zs n' t' H' hHl hl' hz (hN.names (all_take ha1 _)) (hN.nodup hst (by omega)) hd' fr⟩
end
end Rh
set_option Elab.async false
set_option linter.all false
set_option maxRecDepth 100000
set_option maxHeartbeats 4000000
namespace Rh
open PySem L2 PyProof.Rows
def Tst (t : TT) (σ : L2.St) (H : Hp) : Prop := ∀ Q : Bool -> Hp -> Prop, (∀ b, Q b H) -> t σ H Q
theorem Tst.and {t u : TT} {σ : L2.St} {H : Hp} (h : Tst t σ H) (k : Tst u σ H) : Tst (tAnd t u) σ H := fun Q q => h _ fun b => by
 cases b
 . exact iteF (q false)
 . exact iteT (k _ q)
theorem Tst.or {t u : TT} {σ : L2.St} {H : Hp} (h : Tst t σ H) (k : Tst u σ H) : Tst (tOr t u) σ H := fun Q q => h _ fun b => by
 cases b
 . exact iteF (k _ q)
 . exact iteT (q true)
theorem if_put {tc : TT} {tp : TS} {D : Ends} {σ : L2.St} {H0 : Hp} (G : Hp -> Prop) (h : G H0) (ht : Tst tc σ H0) (hp : ∀ D : Ends, (∀ H', G H' -> D.nx σ H') -> tp D σ H0) (k : ∀ H', G H' -> D.nx σ H') : tIfS tc tp tNext D σ H0 :=
 ht _ fun b => by
   cases b
   . exact iteF (k _ h)
   . exact iteT (hp D k)
theorem if_putS {tc : TT} {tp u : TS} {D : Ends} {σ : L2.St} {H0 : Hp} (G : Hp -> Prop) (h : G H0) (ht : Tst tc σ H0) (hp : ∀ D : Ends, (∀ H', G H' -> D.nx σ H') -> tp D σ H0) (k : ∀ H', G H' -> u D σ H') : tSeq (tIfS tc tp tNext) u D σ H0 := if_put G h ht hp k
theorem gName_is {i : Nat} {v : V} {σ : L2.St} {H : Hp} {Q : L2.St -> Hp -> Prop} (h : Q (σ.set i (some v)) H) : gName i v σ H Q := h
abbrev up (k : Nat × Nat) : Int × Int := ((k.1 : Int), (k.2 : Int))
def ltN (a b : Nat × Nat) : Prop := a.1 < b.1 ∨ (a.1 = b.1 /\ a.2 < b.2)
abbrev keysOf (ks : List (Nat × Nat)) : List (List Key) := ks.map fun k => pairK (up k)
theorem pairK_inj {a b : Nat × Nat} (h : pairK (up a) = pairK (up b)) : a = b := by
 unfold pairK at h
 simp only [List.cons.injEq, Sum.inl.injEq, and_true] at h
 exact Prod.ext (by have := h.1; omega) (by have := h.2; omega)
structure Ahead (m i j : Nat) (ks : List (Nat × Nat)) : Prop where
 ord : ks.Pairwise ltN
 lt : ∀ x ∈ ks, x.2 < m /\ (x.1 < i ∨ (x.1 = i /\ x.2 < j))
 len : ks.length <= i * m + j
theorem Ahead.more {m i j : Nat} {ks : List (Nat × Nat)} (h : Ahead m i j ks) : Ahead m i (j + 1) ks := ⟨h.ord, fun x hx => by have := h.lt x hx; omega, by have := h.len; omega⟩
theorem Ahead.snoc {m i j : Nat} {ks : List (Nat × Nat)} (h : Ahead m i j ks) (hj : j < m) : Ahead m i (j + 1) (ks ++ [(i, j)]) := by
 refine ⟨List.pairwise_append.mpr ⟨h.ord, List.pairwise_singleton _ _, fun a ha b hb => ?_⟩, fun x hx => ?_, ?_⟩
 . rw [List.mem_singleton.mp hb]
   have := h.lt a ha
   unfold ltN
   omega
 . rcases List.mem_append.mp hx with hx | hx
   . have := h.lt x hx
     omega
   . rw [List.mem_singleton.mp hx]
     exact ⟨hj, .inr ⟨rfl, Nat.lt_succ_self _⟩⟩
 . rw [List.length_append]
   have := h.len
   show ks.length + 1 <= _
   omega
theorem Ahead.row {m i : Nat} {ks : List (Nat × Nat)} (h : Ahead m i m ks) : Ahead m (i + 1) 0 ks := ⟨h.ord, fun x hx => by have := h.lt x hx; omega, by have := h.len; rw [Nat.succ_mul]; omega⟩
def Mid (m i j : Nat) (kvs : List (List Key × V)) : Prop := ∃ ks, Ahead m i j ks /\ (kvs.map (·.1) = keysOf ks ∨ kvs.map (·.1) = keysOf (ks ++ [(i, j)]))
theorem any_key (kvs : List (List Key × V)) (k : List Key) : ((kvs.any fun kv => decide (kv.1 = k)) = true) ↔ k ∈ kvs.map (·.1) := by
 rw [List.any_eq_true, List.mem_map]
 simp
theorem keys_in {kvs : List (List Key × V)} {k : List Key} (v : V) (h : k ∈ kvs.map (·.1)) : (putK kvs k v).map (·.1) = kvs.map (·.1) := by
 unfold putK
 rw [if_pos ((any_key kvs k).mpr h), List.map_map]
 refine List.map_congr_left fun x _ => ?_
 show (if x.1 = k then (x.1, v) else x).1 = x.1
 split <;> rfl
theorem keys_new {kvs : List (List Key × V)} {k : List Key} (v : V) (h : ¬ k ∈ kvs.map (·.1)) : (putK kvs k v).map (·.1) = kvs.map (·.1) ++ [k] := by
 unfold putK
 rw [if_neg (fun z => h ((any_key kvs k).mp z)), List.map_append]
 rfl
theorem Mid.put {m i j : Nat} {kvs : List (List Key × V)} (h : Mid m i j kvs) (v : V) : Mid m i j (putK kvs (pairK (up (i, j))) v) := by
 obtain ⟨ks, ha, h⟩ := h
 refine ⟨ks, ha, .inr ?_⟩
 rcases h with h | h
 . rw [keys_new, h, keysOf, keysOf, List.map_append]
   . rfl
   . rw [h]
     intro z
     obtain ⟨x, hx, e⟩ := List.mem_map.mp z
     have e' := pairK_inj e
     have := ha.lt x hx
     rw [e'] at this
     omega
 . rw [keys_in, h]
   rw [h]
   exact List.mem_map.mpr ⟨(i, j), by simp, rfl⟩
theorem Mid.len {m i j : Nat} {kvs : List (List Key × V)} (h : Mid m i j kvs) : kvs.length <= i * m + j + 1 := by
 obtain ⟨ks, ha, h⟩ := h
 have hl := ha.len
 rcases h with h | h
 . have := congrArg List.length h
   simp only [List.length_map] at this
   omega
 . have := congrArg List.length h
   simp only [List.length_map, List.length_append, List.length_singleton] at this
   omega
theorem sq_le {i m : Nat} (hi : i <= m) (hm : m <= 14) : i * m <= 196 := Nat.le_trans (Nat.mul_le_mul (Nat.le_trans hi hm) hm) (by decide)
theorem cut40 (xs : List V) : cutV xs none (some 40) = xs.take 40 := by
 unfold cutV
 have e1 : HT.sIx xs.length 0 none = 0 := rfl
 have e2 : HT.sIx xs.length xs.length (some 40) = min 40 xs.length := by
   simp [HT.sIx]
 rw [e1, e2, List.drop_zero, Nat.sub_zero]
 by_cases h : 40 <= xs.length
 . rw [Nat.min_eq_left h]
 . rw [Nat.min_eq_right (by omega), List.take_of_length_le (Nat.le_refl _), List.take_of_length_le (by omega)]
def PairsAt (H : Hp) (ps : List Addr) (ks : List (Nat × Nat)) : Prop := ps.length = ks.length /\ ∀ (i : Nat) (p : Addr) (k : Nat × Nat), ps[i]? = some p -> ks[i]? = some k -> H p = some (.tup [.int (k.1 : Nat), .int (k.2 : Nat)])
def spLeads : Sp := fun vs H Q _ => ∃ (d : Addr) (m : Nat) (n s t sh lo : Int), vs = [.ref d, .int m, .int sh, .int lo] /\ H d = some (.dK (src n s t)) /\ m <= 14 ∧
 ∀ (l : Addr) (ps : List Addr) (ks : List (Nat × Nat)) (n' t' : Int) (H' : Hp), H l = none -> H' l = some (.lst (ps.map V.ref)) -> PairsAt H' ps ks -> ks.Pairwise ltN -> (∀ x ∈ ks, x.1 < m /\ x.2 < m) -> ks.length <= 40 -> H' d = some (.dK (src n' s t')) -> Fr H d H' -> Q (.ref l) H'
section
variable {P : Program} {w : World} {K : PySem.W.Frag} {mg : Str -> Option Value} {base : Heap}
abbrev nLeads : List Str := ["_law_source_here", "_law_many", "_law_shape", "_law_low", "_law_pairs", "_law_k", "_law_j", "_law_way"]
abbrev pLeads : List Str := ["_law_source_here", "_law_many", "_law_shape", "_law_low"]
theorem scLeads : FnScope nLeads pLeads (defScope sLeads) := ⟨rfl, rfl, rfl, by decide +kernel, rfl, by decide +kernel, by decide +kernel⟩
theorem ok_leads {f fT : Addr} {fd fdT : FuncData} (F : Fun K "_law_leads" "_law_leads" sLeads f fd) (B : Blt mg) (hso : mg "sorted" = none) (hT : Has K mg "_law_take" sTake ["_law_source_here", "_law_many"] fT fdT) : FnOk P w K mg base CX0 2 f fd pLeads spLeads := by
 have GT : FnOk P w K mg base CX0 1 fT fdT ["_law_source_here", "_law_many"] spTake := ok_take hT.fn
 refine F.okJ scLeads (fun vs H Q E h => ?_) (fun cdv A outer s H vs Q E hr h => ?_)
 . obtain ⟨d, m, n, sd, t, sh, lo, rfl, _⟩ := h
   rfl
 . obtain ⟨d, m, n, sd, t, sh, lo, rfl, hd, hm, q⟩ := h
   have hu := hu_of hr
   refine ⟨_, qac (qao (i := 4) scLeads.nd rfl (Or.inl rfl) je_dnewT)
     (qac (qbf PassesOwn.never rfl (qaw (by rfl) B.rng (qaa (jv 1) qad)) (qaj (i := 5) scLeads.nd rfl (Or.inl rfl))
       (qae (qbf PassesOwn.never rfl (qaw (by rfl) B.rng (qaa (jv 1) qad)) (qaj (i := 6) scLeads.nd rfl (Or.inl rfl))
         (qac (qao (i := 7) scLeads.nd rfl (Or.inl rfl) (je_f hT GT hr (by rfl) (qaa (jv 0) (qaa qag qad))))
         (qac (qba (qcr (qak op_eq (jv 2) qag (nomark _)) (qcf (jw_or (qcr (qak op_lt (jv 6) (jv 5) (nomark _)) (qcf (qak op_lt (jv 7) qag (nomark _)))).pt (jw_or1 (qcr (qak op_ge (jv 6) (jv 5) (nomark _)) (qcf (qak op_lt (jv 7) qag (nomark _)))).pt)).pt)).pt
           (qae (qbi hu (jv 4) (qcb (qaa (jv 5) (qaa (jv 6) qad))) qcp rfl)) qap)
         (qac (qba (qcr (qak op_eq (jv 2) qag (nomark _)) (qcf (qak op_lt (jv 7) qag (nomark _)))).pt
           (qae (qbi hu (jv 4) (qcb (qaa (jv 5) (qaa (jv 6) qad))) qcp rfl)) qap)
         (qac (qba (qcr (qak op_eq (jv 2) qag (nomark _)) (qcf (jw_or (qcr (qak op_eq (jv 6) (qau op_mod (qau op_add (jv 5) qag) (jv 1)) (nomark _)) (qcf (qak op_lt (jv 7) qag (nomark _)))).pt (jw_or1 (qak op_lt (jv 7) qag (nomark _)))).pt)).pt
           (qae (qbi hu (jv 4) (qcb (qaa (jv 5) (qaa (jv 6) qad))) qcp rfl)) qap)
         (qac (qba (qcr (qak op_eq (jv 2) qag (nomark _)) (qcr (qak op_lt (jv 6) (jv 5) (nomark _)) (qcf (jw_or (qak op_lt (jv 6) (jv 3) (nomark _)) (jw_or1 (qak op_lt (jv 7) qag (nomark _)))).pt))).pt
           (qae (qbi hu (jv 4) (qcb (qaa (jv 5) (qaa (jv 6) qad))) qcp rfl)) qap)
         (qae (qba (qcr (qak op_eq (jv 2) qag (nomark _)) (qcf (jw_or (qcr (qak op_lt (jv 6) (jv 3) (nomark _)) (qcf (qak op_lt (jv 6) (jv 5) (nomark _)))).pt (jw_or1 (qcr (qak op_ge (jv 5) (jv 3) (nomark _)) (qcf (qak op_lt (jv 7) qag (nomark _)))).pt)).pt)).pt
           (qae (qbi hu (jv 4) (qcb (qaa (jv 5) (qaa (jv 6) qad))) qcp rfl)) qap)))))))))
       )
     (qae (qal (je_slice sl_list (qan (call_sortD rfl) (by rfl) hso boot_sorted (qaa (jv 4) qad)) jo_none (jo_some qag))))), ?_⟩
   intro D hD
   have nDd : D ≠ d := fun e => by rw [e, hd] at hD; cases hD
   refine ⟨_, rfl, m, rfl, by omega, by omega, ?_⟩
   refine qcc (lo := 0) (n := m) (fun i σ' H' => ∃ (v1 v2 v3 : Option V) (n' t' : Int) (kvs : List (List Key × V)) (ks : List (Nat × Nat)), σ' = [some (.ref d), some (.int m), some (.int sh), some (.int lo), some (.ref D), v1, v2, v3] ∧
     H' d = some (.dK (src n' sd t')) /\ H' D = some (.dT kvs) /\ kvs.map (·.1) = keysOf ks /\ Ahead m i 0 ks /\ Fr H d H')
     ⟨none, none, none, n, t, [], [], rfl, qai hd hD, qab, rfl, ⟨.nil, fun x hx => (nomatch hx), Nat.zero_le _⟩, Fr.refl.new hD⟩ ?_ ?_
   . rintro i σ' H' hi ⟨v1, v2, v3, n', t', kvs, ks, rfl, hd', hD', ek, ha, fr⟩
     rw [Int.zero_add]
     refine ⟨_, rfl, m, rfl, by omega, by omega, ?_⟩
     refine qcc (lo := 0) (n := m) (fun j σ' H' => ∃ (v2 v3 : Option V) (n' t' : Int) (kvs : List (List Key × V)) (ks : List (Nat × Nat)), σ' = [some (.ref d), some (.int m), some (.int sh), some (.int lo), some (.ref D), some (.int i), v2, v3] ∧
       H' d = some (.dK (src n' sd t')) /\ H' D = some (.dT kvs) /\ kvs.map (·.1) = keysOf ks /\ Ahead m i j ks /\ Fr H d H')
       ⟨_, _, n', t', kvs, ks, rfl, hd', hD', ek, ha, fr⟩ ?_ ?_
     . rintro j σ' H2 hj ⟨v2, v3, n2, t2, kvs, ks, rfl, hd2, hD2, ek, ha, fr⟩
       rw [Int.zero_add]
       refine ⟨_, rfl, d, 12, n2, sd, t2, rfl, hd2, by decide, by decide, fun r n3 t3 r0 r1 => ?_⟩
       have hsq := sq_le (Nat.le_of_lt hi) hm
       let G : Hp -> Prop := fun H' => ∃ (kvs : List (List Key × V)), H' d = some (.dK (src n3 sd t3)) /\ H' D = some (.dT kvs) /\ Mid m i j kvs /\ Fr H d H'
       have g0 : G (upd H2 d (.dK (src n3 sd t3))) := ⟨kvs, qab, (by rw [qah nDd]; exact hD2), ⟨ks, ha, .inl ek⟩, fr.at_d⟩
       have put : ∀ H', G H' -> ∀ E : Ends, (∀ H', G H' -> E.nx [some (.ref d), some (.int m), some (.int sh), some (.int lo), some (.ref D), some (.int i), some (.int j), some (.int r)] H') →
           sDPut (tVar 4) (tTup (tCons (tVar 5) (tCons (tVar 6) tNil))) (tC (.bl true)) E [some (.ref d), some (.int m), some (.int sh), some (.int lo), some (.ref D), some (.int i), some (.int j), some (.int r)] H' := by
         rintro H' ⟨kvs, h1, h2, h3, h4⟩ E k
         refine ⟨_, rfl, _, rfl, _, rfl, by show 2 <= sizeLine; decide, fun p hp => ?_⟩
         have npd : p ≠ d := fun e => by rw [e, h1] at hp; cases hp
         have npD : p ≠ D := fun e => by rw [e, h2] at hp; cases hp
         refine ⟨D, _, rfl, DPut.t (k := pairK (up (i, j))) (kvs := kvs) (by rw [qah (Ne.symm npD)]; exact h2) qab (small1000 (by have := h3.len; omega)), ?_⟩
         refine k _ ⟨_, ?_, qab, h3.put _, ?_⟩
         . rw [qah (Ne.symm nDd), qah (Ne.symm npd)]
           exact h1
         . exact (h4.new hp).own hD
       refine gName_is ?_
       dsimp only [List.set]
       refine if_putS G g0 ?_ (put _ g0) fun H3 g3 => ?_
       . exact Tst.and (fun Q q => ⟨_, rfl, rfl, _, rfl, q _⟩) (.or (.and (fun Q q => ⟨_, rfl, _, rfl, _, _, rfl, rfl, _, rfl, q _⟩) (fun Q q => ⟨_, rfl, _, _, rfl, rfl, _, rfl, q _⟩)) (.and (fun Q q => ⟨_, rfl, _, rfl, _, _, rfl, rfl, _, rfl, q _⟩) (fun Q q => ⟨_, rfl, _, _, rfl, rfl, _, rfl, q _⟩)))
       refine if_putS G g3 ?_ (put _ g3) fun H4 g4 => ?_
       . exact Tst.and (fun Q q => ⟨_, rfl, rfl, _, rfl, q _⟩) (fun Q q => ⟨_, rfl, _, _, rfl, rfl, _, rfl, q _⟩)
       refine if_putS G g4 ?_ (put _ g4) fun H5 g5 => ?_
       . exact Tst.and (fun Q q => ⟨_, rfl, rfl, _, rfl, q _⟩) (.or (.and (fun Q q => ⟨_, rfl, _, rfl, _, _, rfl, rfl, _, rfl, _, _, rfl, rfl, (by show (0 : Int) < m; omega), rfl, _, rfl, q _⟩) (fun Q q => ⟨_, rfl, _, _, rfl, rfl, _, rfl, q _⟩)) (fun Q q => ⟨_, rfl, _, _, rfl, rfl, _, rfl, q _⟩))
       refine if_putS G g5 ?_ (put _ g5) fun H6 g6 => ?_
       . exact Tst.and (fun Q q => ⟨_, rfl, rfl, _, rfl, q _⟩) (.and (fun Q q => ⟨_, rfl, _, rfl, _, _, rfl, rfl, _, rfl, q _⟩) (.or (fun Q q => ⟨_, rfl, _, rfl, _, _, rfl, rfl, _, rfl, q _⟩) (fun Q q => ⟨_, rfl, _, _, rfl, rfl, _, rfl, q _⟩)))
       refine if_put G g6 ?_ (put _ g6) fun H7 g7 => ?_
       . exact Tst.and (fun Q q => ⟨_, rfl, rfl, _, rfl, q _⟩) (.or (.and (fun Q q => ⟨_, rfl, _, rfl, _, _, rfl, rfl, _, rfl, q _⟩) (fun Q q => ⟨_, rfl, _, rfl, _, _, rfl, rfl, _, rfl, q _⟩)) (.and (fun Q q => ⟨_, rfl, _, rfl, _, _, rfl, rfl, _, rfl, q _⟩) (fun Q q => ⟨_, rfl, _, _, rfl, rfl, _, rfl, q _⟩)))
       obtain ⟨kvs, h1, h2, ⟨ks, ha, h3⟩, h4⟩ := g7
       rcases h3 with h3 | h3
       . exact ⟨_, _, n3, t3, kvs, ks, rfl, h1, h2, h3, ha.more, h4⟩
       . exact ⟨_, _, n3, t3, kvs, _, rfl, h1, h2, h3, ha.snoc hj, h4⟩
     . rintro σ' H2 ⟨v2, v3, n2, t2, kvs, ks, rfl, hd2, hD2, ek, ha, fr⟩
       exact ⟨_, _, _, n2, t2, kvs, ks, rfl, hd2, hD2, ek, ha.row, fr⟩
   . rintro σ' H1 ⟨v1, v2, v3, n1, t1, kvs, ks, rfl, hd1, hD1, ek, ha, fr⟩
     have hl : kvs.length = ks.length := by simpa using congrArg List.length ek
     have hsq := sq_le (Nat.le_refl m) hm
     have hal := ha.len
     refine ⟨_, rfl, D, kvs, ks.map up, rfl, hD1, ?_, ?_, by omega, fun l ps hfl lps tup => ?_⟩
     . rw [ek, List.map_map]
       rfl
     . intro i k k' e1 e2
       rw [List.getElem?_map] at e1 e2
       cases e3 : ks[i]? with
       | none => rw [e3] at e1; cases e1
       | some a =>
         cases e4 : ks[i + 1]? with
         | none => rw [e4] at e2; cases e2
         | some b =>
           rw [e3] at e1
           rw [e4] at e2
           obtain rfl := (Option.some.inj e1).symm
           obtain rfl := (Option.some.inj e2).symm
           have h5 := List.pairwise_iff_getElem.mp ha.ord i (i + 1) (List.getElem?_eq_some_iff.mp e3).1 (List.getElem?_eq_some_iff.mp e4).1 (Nat.lt_succ_self _)
           rw [(List.getElem?_eq_some_iff.mp e3).2, (List.getElem?_eq_some_iff.mp e4).2] at h5
           unfold ltN at h5
           show lexLt2 _ _
           unfold lexLt2
           show (a.1 : Int) < b.1 ∨ ((a.1 : Int) = b.1 /\ (a.2 : Int) < b.2)
           omega
     . refine ⟨40, rfl, l, _, rfl, .of qab, fun l2 hl2 => ?_⟩
       rw [cut40, ← List.map_take]
       have n2d : l2 ≠ d := fun e => by
         rw [e, qai hd1 hfl] at hl2
         cases hl2
       have hl1 : H1 l2 = none := by
         by_cases e : l2 = l
         . rw [e]; exact hfl
         . rw [qah e] at hl2; exact hl2
       have fr2 := (fr.new (o := .lst (ps.map V.ref)) hfl).new (o := .lst ((ps.take 40).map V.ref)) hl2
       refine q l2 (ps.take 40) (ks.take 40) n1 t1 _ (fr.fresh hd1 hl1) qab ⟨?_, fun i p k e1 e2 => ?_⟩ ?_ ?_ ?_ ?_ fr2
       . rw [List.length_take, List.length_take, lps, List.length_map]
       . have i40 : i < 40 := by
           have := (List.getElem?_eq_some_iff.mp e1).1
           rw [List.length_take] at this
           omega
         rw [List.getElem?_take_of_lt i40] at e1 e2
         have h1 := tup i p (up k) e1 (by rw [List.getElem?_map, e2]; rfl)
         exact qai (qai h1 hfl) hl2
       . exact ha.ord.sublist (List.take_sublist _ _)
       . intro x hx
         have := ha.lt x (List.mem_of_mem_take hx)
         omega
       . rw [List.length_take]
         omega
       . exact qai (qai hd1 hfl) hl2
end
end Rh
set_option Elab.async false
set_option linter.all false
set_option maxRecDepth 100000
set_option maxHeartbeats 4000000
namespace Rh
open PySem L2 PyProof.Rows
structure GoodRows (rs : List (Str × List Str)) : Prop where
 nm : ∀ r ∈ rs, isName r.1 = true
 nd : (rs.map (·.1)).Nodup
 to : ∀ r ∈ rs, ∀ z ∈ r.2, z ∈ rs.map (·.1)
 rd : ∀ r ∈ rs, r.2.Nodup
 few : (rs.map fun r => r.2.length).sum <= 40
def zAt (zs : List Str) (j : Nat) : Str := zs.getD j ⟨#[]⟩
theorem zAt_mem {zs : List Str} {j : Nat} (h : j < zs.length) : zAt zs j ∈ zs := by
 unfold zAt
 rw [List.getD_eq_getElem?_getD, List.getElem?_eq_getElem h]
 exact List.getElem_mem h
theorem zAt_get {zs : List Str} {j : Nat} (h : j < zs.length) : zs[j]? = some (zAt zs j) := by
 unfold zAt
 rw [List.getD_eq_getElem?_getD, List.getElem?_eq_getElem h]
 rfl
theorem zAt_inj {zs : List Str} (hn : zs.Nodup) {i j : Nat} (hi : i < zs.length) (hj : j < zs.length) (h : zAt zs i = zAt zs j) : i = j := by
 have h1 := zAt_get hi
 have h2 := zAt_get hj
 rw [h, ← h2, List.getElem?_eq_getElem hi, List.getElem?_eq_getElem hj] at h1
 have e : zs[i] = zs[j] := Option.some.inj h1
 rcases Nat.lt_trichotomy i j with l | l | l
 . exact absurd e (List.pairwise_iff_getElem.mp hn i j hi hj l)
 . exact l
 . exact absurd e.symm (List.pairwise_iff_getElem.mp hn j i hj hi l)
theorem nodup_map {α β : Type} {f : α -> β} : ∀ {l : List α}, l.Nodup -> (∀ a ∈ l, ∀ b ∈ l, f a = f b -> a = b) -> (l.map f).Nodup
 | [], _, _ => List.nodup_nil
 | a :: l, h, k => by
   rw [List.map_cons, List.nodup_cons]
   rw [List.nodup_cons] at h
   refine ⟨fun z => ?_, nodup_map h.2 fun x hx y hy => k x (List.mem_cons_of_mem _ hx) y (List.mem_cons_of_mem _ hy)⟩
   obtain ⟨b, hb, e⟩ := List.mem_map.mp z
   have := k b (List.mem_cons_of_mem _ hb) a (List.mem_cons_self) e
   subst this
   exact h.1 hb
def toN (ks : List (Nat × Nat)) (k : Nat) : List Nat := (ks.filter fun x => decide (x.1 = k)).map (·.2)
theorem toN_nodup {ks : List (Nat × Nat)} (h : ks.Pairwise ltN) (k : Nat) : (toN ks k).Nodup := by
 have h1 : (ks.filter fun x => decide (x.1 = k)).Pairwise ltN := h.sublist (List.filter_sublist)
 refine List.pairwise_map.mpr (List.Pairwise.imp_of_mem (fun {a b} ha hb r => ?_) h1)
 have e1 : a.1 = k := of_decide_eq_true (List.mem_filter.mp ha).2
 have e2 : b.1 = k := of_decide_eq_true (List.mem_filter.mp hb).2
 unfold ltN at r
 omega
theorem toN_lt {ks : List (Nat × Nat)} {m : Nat} (h : ∀ x ∈ ks, x.1 < m /\ x.2 < m) (k : Nat) : ∀ j ∈ toN ks k, j < m := fun j hj => by
 obtain ⟨x, hx, e⟩ := List.mem_map.mp hj
 have := (h x (List.mem_filter.mp hx).1).2
 omega
theorem sum_add (os : List Nat) (f g : Nat -> Nat) : (os.map fun k => f k + g k).sum = (os.map f).sum + (os.map g).sum := by
 induction os with
 | nil => rfl
 | cons a os ih =>
   simp only [List.map_cons, List.sum_cons, ih]
   omega
theorem sum_one {os : List Nat} (h : os.Nodup) (a : Nat) : (os.map fun k => if a = k then 1 else 0).sum <= 1 := by
 induction os with
 | nil => exact Nat.zero_le _
 | cons b os ih =>
   rw [List.nodup_cons] at h
   rw [List.map_cons, List.sum_cons]
   by_cases e : a = b
   . subst e
     have z : (os.map fun k => if a = k then 1 else 0) = os.map fun _ => 0 := List.map_congr_left fun k hk => by
       rw [if_neg]
       intro e
       subst e
       exact h.1 hk
     rw [z, if_pos rfl]
     have : (os.map fun _ => 0).sum = 0 := by
       clear z ih h
       induction os with
       | nil => rfl
       | cons c os ih => rw [List.map_cons, List.sum_cons, ih]
     omega
   . rw [if_neg e]
     have := ih h.2
     omega
theorem toN_sum {os : List Nat} (h : os.Nodup) : ∀ ks : List (Nat × Nat), (os.map fun k => (toN ks k).length).sum <= ks.length
 | [] => by
   have : (os.map fun k => (toN [] k).length).sum = 0 := by
     clear h
     induction os with
     | nil => rfl
     | cons c os ih => rw [List.map_cons, List.sum_cons, ih]; rfl
   omega
 | x :: ks => by
   have e : (os.map fun k => (toN (x :: ks) k).length) = os.map fun k => (if x.1 = k then 1 else 0) + (toN ks k).length := List.map_congr_left fun k _ => by
     unfold toN
     rw [List.filter_cons]
     by_cases z : x.1 = k
     . rw [if_pos (decide_eq_true z), if_pos z]
       simp only [List.map_cons, List.length_cons]
       omega
     . rw [if_neg (by simpa using z), if_neg z, Nat.zero_add]
   rw [e, sum_add, List.length_cons]
   have := sum_one h x.1
   have := toN_sum h ks
   omega
def rowOf (zs : List Str) (ks : List (Nat × Nat)) (ab : Bool) (k : Nat) : Str × List Str :=
 (zAt zs k, if ab = true then ((toN ks k).map (zAt zs)).reverse else (toN ks k).map (zAt zs))
theorem rowOf_mem {zs : List Str} {ks : List (Nat × Nat)} {ab : Bool} {k : Nat} {z : Str} : z ∈ (rowOf zs ks ab k).2 ↔ z ∈ (toN ks k).map (zAt zs) := by
 unfold rowOf
 cases ab
 . rw [if_neg Bool.false_ne_true]
 . rw [if_pos rfl, List.mem_reverse]
theorem rowOf_len {zs : List Str} {ks : List (Nat × Nat)} {ab : Bool} {k : Nat} : (rowOf zs ks ab k).2.length = (toN ks k).length := by
 unfold rowOf
 cases ab
 . rw [if_neg Bool.false_ne_true, List.length_map]
 . rw [if_pos rfl, List.length_reverse, List.length_map]
structure Order (m : Nat) (os : List Nat) : Prop where
 len : os.length = m
 nd : os.Nodup
 lt : ∀ k ∈ os, k < m
 all : ∀ j, j < m -> j ∈ os
theorem good_rows {zs : List Str} {ks : List (Nat × Nat)} {os : List Nat} {m : Nat} (ab : Bool) (hz : zs.length = m) (hN : ∀ z ∈ zs, isName z = true) (hd : zs.Nodup) (hk : ks.Pairwise ltN) (hl : ∀ x ∈ ks, x.1 < m /\ x.2 < m) (h40 : ks.length <= 40) (ho : Order m os) :
   GoodRows (os.map (rowOf zs ks ab)) := by
 have e1 : (os.map (rowOf zs ks ab)).map (·.1) = os.map (zAt zs) := by rw [List.map_map]; rfl
 have inj : ∀ a ∈ os, ∀ b ∈ os, zAt zs a = zAt zs b -> a = b := fun a ha b hb e => zAt_inj hd (by rw [hz]; exact ho.lt a ha) (by rw [hz]; exact ho.lt b hb) e
 refine ⟨fun r hr => ?_, ?_, fun r hr z hz' => ?_, fun r hr => ?_, ?_⟩
 . obtain ⟨k, hk', rfl⟩ := List.mem_map.mp hr
   exact hN _ (zAt_mem (by rw [hz]; exact ho.lt k hk'))
 . rw [e1]
   exact nodup_map ho.nd inj
 . obtain ⟨k, hk', rfl⟩ := List.mem_map.mp hr
   rw [rowOf_mem] at hz'
   obtain ⟨j, hj, rfl⟩ := List.mem_map.mp hz'
   rw [e1]
   exact List.mem_map.mpr ⟨j, ho.all j (toN_lt hl k j hj), rfl⟩
 . obtain ⟨k, hk', rfl⟩ := List.mem_map.mp hr
   have h1 : ((toN ks k).map (zAt zs)).Nodup := nodup_map (toN_nodup hk k) fun a ha b hb e => zAt_inj hd (by rw [hz]; exact toN_lt hl k a ha) (by rw [hz]; exact toN_lt hl k b hb) e
   show (if ab = true then _ else _ : List Str).Nodup
   cases ab
   . rw [if_neg Bool.false_ne_true]
     exact h1
   . rw [if_pos rfl]
     exact List.pairwise_reverse.mpr (h1.imp fun h => Ne.symm h)
 . have e2 : ((os.map (rowOf zs ks ab)).map fun r => r.2.length) = os.map fun k => (toN ks k).length := by
     rw [List.map_map]
     exact List.map_congr_left fun k _ => rowOf_len
   rw [e2]
   exact Nat.le_trans (toN_sum ho.nd ks) h40
theorem order_up (m : Nat) : Order m (List.range m) := ⟨List.length_range, List.nodup_range, fun k h => List.mem_range.mp h, fun j h => List.mem_range.mpr h⟩
theorem order_down (m : Nat) : Order m (downN m) := ⟨by rw [downN, List.length_reverse, List.length_range], List.pairwise_reverse.mpr (List.nodup_range.imp fun h => Ne.symm h), fun k h => List.mem_range.mp (List.mem_reverse.mp h), fun j h => List.mem_reverse.mpr (List.mem_range.mpr h)⟩
def fives (m : Nat) : List Nat := (List.range m).map fun k => k * 5 % m
theorem fives_all : ∀ m, m < 15 -> (fives m).Nodup -> ∀ j, j < m -> j ∈ fives m := by decide +kernel
theorem order_fives {m : Nat} (hm : m <= 14) (h0 : 0 < m) (h : (fives m).Nodup) : Order m (fives m) :=
 ⟨by rw [fives, List.length_map, List.length_range], h, fun k hk => by obtain ⟨x, _, rfl⟩ := List.mem_map.mp hk; exact Nat.mod_lt _ h0, fives_all m (by omega) h⟩
theorem met_nodup (val : Nat -> Int) : ∀ i, (firstMet val i).length = i -> ((List.range i).map val).Nodup
 | 0, _ => List.nodup_nil
 | i + 1, h => by
   have h1 := firstMet_any val i (val i)
   have h2 := firstMet_length_le val i
   rw [firstMet_succ] at h
   unfold step_dedup at h
   split at h
   . omega
   . rename_i z
     rw [List.length_append, List.length_singleton] at h
     rw [List.range_succ, List.map_append, List.nodup_append]
     refine ⟨met_nodup val i (by omega), by simp, fun a ha b hb e => ?_⟩
     have eb : b = val i := by simpa using hb
     subst eb
     subst e
     refine z ?_
     rw [h1, List.any_eq_true]
     exact ⟨_, ha, by simp⟩
theorem met_of {os : List Nat} (h : ¬ (firstMet (fun i => (os.map fun k => ((k : Nat) : Int)).getD i 0) (os.map fun k => ((k : Nat) : Int)).length).length < os.length) : os.Nodup := by
 have h1 := firstMet_length_le (fun i => (os.map fun k => ((k : Nat) : Int)).getD i 0) (os.map fun k => ((k : Nat) : Int)).length
 have h2 := met_nodup (fun i => (os.map fun k => ((k : Nat) : Int)).getD i 0) (os.map fun k => ((k : Nat) : Int)).length (by rw [List.length_map] at h1 h ⊢; omega)
 have e : (List.range (os.map fun k => ((k : Nat) : Int)).length).map (fun i => (os.map fun k => ((k : Nat) : Int)).getD i 0) = os.map fun k => ((k : Nat) : Int) := by
   refine List.ext_getElem? fun i => ?_
   rw [List.getElem?_map]
   by_cases hi : i < (os.map fun k => ((k : Nat) : Int)).length
   . rw [List.getElem?_range hi, List.getElem?_eq_getElem hi]
     simp only [Option.map_some, List.getD_eq_getElem?_getD, List.getElem?_eq_getElem hi, Option.getD_some]
   . rw [List.getElem?_eq_none (by rw [List.length_range]; omega), List.getElem?_eq_none (by omega)]
     rfl
 rw [e] at h2
 refine (List.pairwise_map.mp h2).imp fun h e => h (by rw [e])
end Rh
set_option Elab.async false
set_option linter.all false
set_option maxRecDepth 100000
set_option maxHeartbeats 4000000
namespace Rh
open PySem L2 PyProof.Rows
def RowsAt (H : Hp) (ps : List Addr) (rs : List (Str × List Str)) : Prop := ps.length = rs.length /\ ∀ (i : Nat) (p : Addr) (r : Str × List Str), ps[i]? = some p -> rs[i]? = some r -> ∃ q, H p = some (.tup [.str r.1, .ref q]) /\ H q = some (.tup (r.2.map V.str))
def spRows : Sp := fun vs H Q _ => ∃ (d : Addr) (mo : Nat) (n s t : Int), vs = [.ref d, .int mo] /\ H d = some (.dK (src n s t)) /\ 0 < mo /\ mo <= 14 ∧
 ∀ (l : Addr) (ps : List Addr) (rs : List (Str × List Str)) (n' t' : Int) (H' : Hp), H l = none -> H' l = some (.lst (ps.map V.ref)) -> RowsAt H' ps rs -> GoodRows rs -> 0 < rs.length -> rs.length <= mo -> H' d = some (.dK (src n' s t')) -> Fr H d H' -> Q (.ref l) H'
structure KitG (mg : Str -> Option Value) : Prop where
 srt : mg "sorted" = none
 lst : mg "list" = none
 rev : mg "reversed" = none
 set : mg "set" = none
 tup : mg "tuple" = none
theorem RowsAt.mono {H H' : Hp} {ps : List Addr} {rs : List (Str × List Str)} (h : RowsAt H ps rs) (s : Same H H') : RowsAt H' ps rs := ⟨h.1, fun i p r e1 e2 => let ⟨q, a, b⟩ := h.2 i p r e1 e2; ⟨q, s _ _ a, s _ _ b⟩⟩
theorem PairsAt.mono {H H' : Hp} {ps : List Addr} {ks : List (Nat × Nat)} (h : PairsAt H ps ks) (s : Same H H') : PairsAt H' ps ks := ⟨h.1, fun i p k e1 e2 => s _ _ (h.2 i p k e1 e2)⟩
theorem Fr.same {H H' H'' : Hp} {d : Addr} (h : Fr H d H') (s : Same H' H'') : Fr H d H'' := fun b u hb hn => s _ _ (h b u hb hn)
theorem RowsAt.snoc {H : Hp} {ps : List Addr} {rs : List (Str × List Str)} (h : RowsAt H ps rs) {p q : Addr} {r : Str × List Str} (hp : H p = some (.tup [.str r.1, .ref q])) (hq : H q = some (.tup (r.2.map V.str))) : RowsAt H (ps ++ [p]) (rs ++ [r]) := by
 refine ⟨by rw [List.length_append, List.length_append, h.1]; rfl, fun i p' r' e1 e2 => ?_⟩
 by_cases hi : i < ps.length
 . rw [List.getElem?_append_left hi] at e1
   rw [List.getElem?_append_left (by rw [← h.1]; exact hi)] at e2
   exact h.2 i p' r' e1 e2
 . have hi' : i = ps.length := by
     have := (List.getElem?_eq_some_iff.mp e1).1
     rw [List.length_append, List.length_singleton] at this
     omega
   subst hi'
   rw [List.getElem?_append_right (Nat.le_refl _), Nat.sub_self] at e1
   rw [h.1, List.getElem?_append_right (Nat.le_refl _), Nat.sub_self] at e2
   obtain rfl := (Option.some.inj e1).symm
   obtain rfl := (Option.some.inj e2).symm
   exact ⟨q, hp, hq⟩
theorem RowsAt.upd_lst {H : Hp} {ps : List Addr} {rs : List (Str × List Str)} {l : Addr} {xs : List V} {o : HO} (h : RowsAt H ps rs) (hl : H l = some (.lst xs)) : RowsAt (upd H l o) ps rs := by
 refine ⟨h.1, fun i p r e1 e2 => ?_⟩
 obtain ⟨q, a, b⟩ := h.2 i p r e1 e2
 refine ⟨q, ?_, ?_⟩
 . rw [qah (fun e => by rw [e, hl] at a; cases a)]
   exact a
 . rw [qah (fun e => by rw [e, hl] at b; cases b)]
   exact b
theorem if_any {tc : TT} {tp u : TS} {D : Ends} {σ : L2.St} {H0 : Hp} (R : Bool -> Hp -> Prop) (G : L2.St -> Hp -> Prop) (ht : ∀ Q : Bool -> Hp -> Prop, (∀ b H1, R b H1 -> Q b H1) -> tc σ H0 Q)
   (hT : ∀ H1, R true H1 -> ∀ D' : Ends, (∀ σ' H', G σ' H' -> D'.nx σ' H') -> tp D' σ H1) (hF : ∀ H1, R false H1 -> G σ H1) (k : ∀ σ' H', G σ' H' -> u D σ' H') : tSeq (tIfS tc tp tNext) u D σ H0 :=
 ht _ fun b H1 r => by
   cases b
   . exact iteF (k _ _ (hF _ r))
   . exact iteT (hT _ r _ k)
theorem zs_at {zs : List Str} {j : Nat} (h : j < zs.length) : atI (zs.map V.str) ((j : Nat) : Int) = some (V.str (zAt zs j)) := atI_nat (by rw [List.getElem?_map, zAt_get h]; rfl)
theorem toN_step {ks : List (Nat × Nat)} {j : Nat} {x : Nat × Nat} (k : Nat) (h : ks[j]? = some x) : toN (ks.take (j + 1)) k = toN (ks.take j) k ++ if x.1 = k then [x.2] else [] := by
 unfold toN
 rw [List.take_add_one, h, List.filter_append, List.map_append]
 congr 1
 by_cases e : x.1 = k
 . rw [if_pos e]
   simp [e]
 . rw [if_neg e]
   simp [e]
abbrev oL (os : List Nat) : List V := os.map fun k => V.int ((k : Nat) : Int)
theorem oL_ints (os : List Nat) : oL os = (os.map fun k => ((k : Nat) : Int)).map V.int := by rw [List.map_map]; rfl
section
variable {P : Program} {w : World} {K : PySem.W.Frag} {mg : Str -> Option Value} {base : Heap}
abbrev nRows : List Str := ["_law_source_here", "_law_most", "_law_many", "_law_names_here", "_law_shape", "_law_pairs", "_law_about", "_law_order", "_law_rows_here", "_law_k", "_law_leads_here"]
theorem scRows : FnScope nRows ["_law_source_here", "_law_most"] (defScope sRows) := ⟨rfl, rfl, rfl, by decide +kernel, rfl, by decide +kernel, by decide +kernel⟩
abbrev cRow : List Str := ["_law_one", "_law_j", "_law_k", "_law_names_here"]
theorem cRow_nd : cRow.Nodup := by decide +kernel
theorem ok_rows {f fT fN fL : Addr} {fd fdT fdN fdL : FuncData} (F : Fun K "_law_rows" "_law_rows" sRows f fd) (B : Blt mg) (G : KitG mg) (hT : Has K mg "_law_take" sTake ["_law_source_here", "_law_many"] fT fdT)
   (hN : Has K mg "_law_names" sNames ["_law_source_here", "_law_many"] fN fdN) (hL : Has K mg "_law_leads" sLeads pLeads fL fdL) : FnOk P w K mg base CX0 3 f fd ["_law_source_here", "_law_most"] spRows := by
 have GT : FnOk P w K mg base CX0 1 fT fdT ["_law_source_here", "_law_many"] spTake := ok_take hT.fn
 have GN : FnOk P w K mg base CX0 2 fN fdN ["_law_source_here", "_law_many"] spNames := ok_names hN.fn B hT
 have GL : FnOk P w K mg base CX0 2 fL fdL pLeads spLeads := ok_leads hL.fn B G.srt hT
 refine F.okJ scRows (fun vs H Q E h => ?_) (fun cdv A outer s H vs Q E hr h => ?_)
 . obtain ⟨d, m, n, sd, t, rfl, _⟩ := h
   rfl
 . obtain ⟨d, mo, n, sd, t, rfl, hd, hmo, hm14, q⟩ := h
   have r1 : Room 1 _ := hr.mono (by decide)
   refine ⟨_, qac (qao (i := 2) scRows.nd rfl (Or.inr rfl) (qau op_add qag (je_f hT GT r1 (by rfl) (qaa (jv 0) (qaa (jv 1) qad)))))
     (qac (qao (i := 3) scRows.nd rfl (Or.inr rfl) (je_f hN GN hr (by rfl) (qaa (jv 0) (qaa (jv 2) qad))))
     (qac (qao (i := 4) scRows.nd rfl (Or.inl rfl) (je_f hT GT r1 (by rfl) (qaa (jv 0) (qaa qag qad))))
     (qac (qao (i := 5) scRows.nd rfl (Or.inl rfl) (je_f hL GL hr (by rfl) (qaa (jv 0) (qaa (jv 2) (qaa (jv 4) (qaa (qau op_add qag (je_f hT GT r1 (by rfl) (qaa (jv 0) (qaa qag qad)))) qad))))))
     (qac (qao (i := 6) scRows.nd rfl (Or.inl rfl) (qcn op_eq (je_f hT GT r1 (by rfl) (qaa (jv 0) (qaa qag qad))) qag (nomark _)))
     (qac (qao (i := 7) scRows.nd rfl (Or.inl rfl) (je_lr rfl (by rfl) G.lst (by rfl) B.rng (jv 2)))
     (qac (qba (qbv (jv 6)) (qae (qcw (i := 7) (N' := ["_law_k", "_law_many"]) (ix := [none, some 2]) scRows.nd rfl (Or.inl rfl) rfl ⟨rfl, rfl, rfl, rfl, rfl⟩ (qaw (by rfl) B.rng (qaa (jv 2) qad))
         (fun C s2 H2 fp pins => ⟨qaj (i := 0) (show (["_law_k", "_law_many"] : List Str).Nodup by decide +kernel) rfl (Or.inl rfl), qbo, qau op_mod (qau op_mul (jv 0) qag) (jv 1)⟩))) qap)
     (qac (qba (qak op_lt (qan call_lenSet (by rfl) B.len boot_len (qaa (qbn (call_setL rfl) (by rfl) G.set boot_set (qaa (jv 7) qad)) qad)) (jv 2) (nomark _))
         (qae (qao (i := 7) scRows.nd rfl (Or.inl rfl) (je_lrr rfl (by rfl) G.lst (by rfl) G.rev (by rfl) B.rng (jv 2)))) qap)
     (qac (qao (i := 8) scRows.nd rfl (Or.inl rfl) (qck qad))
     (qac (qbf PassesOwn.never rfl (qar (jv 7)) (qaj (i := 9) scRows.nd rfl (Or.inr rfl))
       (qac (qcw (i := 10) (N' := cRow) (ix := [none, none, some 9, some 3]) (g := gTup K 2 (gCons (gName 0) (gCons (gName 1) gNil))) (te := tOp (rIxL K) (tVar 3) (tVar 1)) scRows.nd rfl (Or.inl rfl) rfl ⟨rfl, rfl, rfl, rfl, rfl⟩ (qar (jv 5))
           (fun C s2 H2 fp pins => ⟨jg_tup rfl (qbg (qaj (i := 0) cRow_nd rfl (Or.inl rfl)) (qbg (qaj (i := 1) cRow_nd rfl (Or.inl rfl)) jgs_nil)),
             qbr (qak op_eq (jv 0) (jv 2) (nomark _)), qbs qcq (jv 3) (jv 1) (fun _ _ => rfl)⟩))
       (qac (qba (qbv (jv 6)) (qae (qbp (je_bm0 PySem.F.plainAttrs_list PySem.F.slot_list_reverse PySem.F.type_list_reverse mt_reverse (jv 10)))) qap)
       (qae (qbp (je_bm PySem.F.plainAttrs_list PySem.F.slot_list_append PySem.F.type_list_append mt_append (jv 8) (qaa
         (qcb (qaa (qbs qcq (jv 3) (jv 9) (fun _ _ => rfl)) (qaa (qbn call_tuple_of (by rfl) G.tup boot_tuple (qaa (jv 10) qad)) qad))) qad)))))))
     (qae (qal (jv 8)))))))))))), ?_⟩
   refine ⟨_, rfl, _, rfl, d, mo, n, sd, t, rfl, hd, by omega, by omega, fun r n1 t1 r0 r1 => ⟨_, _, rfl, rfl, ?_⟩⟩
   obtain ⟨m, em, m0, m1⟩ : ∃ m : Nat, 1 + r = (m : Int) /\ 0 < m /\ m <= mo := ⟨(1 + r).toNat, by omega, by omega, by omega⟩
   have em' : (fun i j : Int => V.int (i + j)) 1 r = V.int (m : Int) := congrArg V.int em
   rw [em']
   refine ⟨_, rfl, _, rfl, d, m, n1, sd, t1, rfl, qab, by omega, fun lz zs n2 t2 H2 hlz hlz' zl zn znd hd2 fr2 => ?_⟩
   have fr2 : Fr H d H2 := Fr.refl.at_d.trans fr2
   refine ⟨_, rfl, d, 5, n2, sd, t2, rfl, hd2, by decide, by decide, fun sh n3 t3 _ _ => ?_⟩
   refine ⟨_, rfl, _, rfl, _, rfl, _, rfl, d, 5, n3, sd, t3, rfl, qab, by decide, by decide, fun lw n4 t4 _ _ => ⟨_, _, rfl, rfl, d, m, n4, sd, t4, sh, 1 + lw, rfl, qab, by omega, fun lp ps ks n5 t5 H5 hlp hlp' pat kord klt k40 hd5 fr5 => ?_⟩⟩
   have nzd : lz ≠ d := fun e => by rw [e, qab] at hlz; cases hlz
   have hz5 : H5 lz = some (.lst (zs.map V.str)) := fr5 _ _ (by rw [qah nzd, qah nzd]; exact hlz') nzd
   have fr5 : Fr H d H5 := fr2.at_d.at_d.trans fr5
   refine ⟨_, rfl, d, 2, n5, sd, t5, rfl, hd5, by decide, by decide, fun ab n6 t6 _ _ => ⟨rfl, ?_⟩⟩
   generalize decide (V.int ab = V.int 1) = b
   have npd : lp ≠ d := fun e => by rw [e, qab] at hlp; cases hlp
   have fr6 : Fr H d (upd H5 d (.dK (src n6 sd t6))) := fr5.at_d
   have hd6 : upd H5 d (.dK (src n6 sd t6)) d = some (.dK (src n6 sd t6)) := qab
   have hz6 : upd H5 d (.dK (src n6 sd t6)) lz = some (.lst (zs.map V.str)) := by rw [qah nzd]; exact hz5
   have hp6 : upd H5 d (.dK (src n6 sd t6)) lp = some (.lst (ps.map V.ref)) := by rw [qah npd]; exact hlp'
   have pat6 : PairsAt (upd H5 d (.dK (src n6 sd t6))) ps ks := ⟨pat.1, fun i p k e1 e2 => by
     have h1 := pat.2 i p k e1 e2
     have : p ≠ d := fun e => by rw [e, hd5] at h1; cases h1
     rw [qah this]
     exact h1⟩
   generalize upd H5 d (.dK (src n6 sd t6)) = H6 at fr6 hd6 hz6 hp6 pat6
   refine ⟨_, rfl, m, rfl, by omega, fun lo hlo => ?_⟩
   refine gName_is ?_
   dsimp only [List.set]
   refine if_any (fun c H' => c = b /\ H' = upd H6 lo (.lst (upN m))) (fun σ' H' => ∃ lo os, σ' = [some (.ref d), some (.int mo), some (.int m), some (.ref lz), some (.int sh), some (.ref lp), some (.bl b), some (.ref lo), none, none, none] /\ Same H6 H' /\ H6 lo = none /\ H' lo = some (.lst (oL os)) /\ (os = List.range m ∨ os = fives m))
     (fun Q k => ⟨_, rfl, b, rfl, k _ _ ⟨rfl, rfl⟩⟩) ?_ ?_ ?_
   . rintro H1 ⟨rfl, rfl⟩ D' k
     refine ⟨_, rfl, m, rfl, by omega, by omega, fun D hD => ?_⟩
     refine blk_range (fun i σ' H' => ∃ v : Option V, σ' = [v, some (.int m)] /\ H' = upd (upd H6 lo (.lst (upN m))) D (.lst (oL ((List.range i).map fun k => k * 5 % m)))) ⟨none, rfl, rfl⟩ ?_ ?_
     . rintro i σ' H' hi ⟨v, rfl, rfl⟩
       rw [Int.zero_add]
       have hi : i < m := by simpa using hi
       refine ⟨_, rfl, _, _, rfl, rfl, .inl ⟨by omega, by omega⟩, _, rfl, _, _, rfl, rfl, (by show (0 : Int) < m; omega), _, qab, ?_, _, rfl, ?_⟩
       . rw [List.length_map, List.length_map, List.length_range]
         exact small1000 (by omega)
       . rw [qbl, List.range_succ, List.map_append, oL, oL, List.map_append]
         rfl
     . rintro σ' H' ⟨v, rfl, rfl⟩
       have hD6 : H6 D = none := by
         by_cases e : D = lo
         . rw [e]; exact hlo
         . rw [qah e] at hD; exact hD
       exact k _ _ ⟨D, fives m, rfl, fun a u h => qai (qai h hlo) hD, hD6, qab, .inr rfl⟩
   . rintro H1 ⟨rfl, rfl⟩
     exact ⟨lo, List.range m, rfl, qaf hlo, hlo, qab, .inl rfl⟩
   rintro σ' H7 ⟨lo, os, rfl, s7, hlo6, hlo7, hos⟩
   have los : os.length = m := by
     rcases hos with rfl | rfl
     . exact List.length_range
     . rw [fives, List.length_map, List.length_range]
   refine if_any (fun c H' => Same H7 H' /\ (c = true ∨ os.Nodup)) (fun σ' H' => ∃ lo os, σ' = [some (.ref d), some (.int mo), some (.int m), some (.ref lz), some (.int sh), some (.ref lp), some (.bl b), some (.ref lo), none, none, none] /\ Same H6 H' /\ H' lo = some (.lst (oL os)) /\ Order m os)
     ?_ ?_ ?_ ?_
   . intro Q k
     refine ⟨_, rfl, lo, os.map (fun k => ((k : Nat) : Int)), rfl, .of (by rw [← oL_ints]; exact hlo7), by rw [List.length_map, los]; omega, fun l S hl => ?_⟩
     refine ⟨l, S, _, rfl, qab, _, rfl, _, _, rfl, rfl, _, rfl, k _ _ ⟨qaf hl, ?_⟩⟩
     by_cases h : (((firstMet (fun i => (os.map fun k => ((k : Nat) : Int)).getD i 0) (os.map fun k => ((k : Nat) : Int)).length).length : Nat) : Int) < (m : Int)
     . exact .inl (decide_eq_true h)
     . exact .inr (met_of (by rw [los]; omega))
   . rintro H1 ⟨s1, _⟩ D' k
     refine ⟨_, rfl, m, rfl, by omega, fun l hl => ?_⟩
     exact k _ _ ⟨l, downN m, rfl, fun a u h => qai (s1 _ _ (s7 _ _ h)) hl, qab, order_down m⟩
   . rintro H1 ⟨s1, h⟩
     have h : os.Nodup := h.resolve_left (by decide)
     refine ⟨lo, os, rfl, fun a u h => s1 _ _ (s7 _ _ h), s1 _ _ hlo7, ?_⟩
     rcases hos with rfl | rfl
     . exact order_up m
     . exact order_fives (by omega) m0 h
   rintro σ' H8 ⟨lo, os, rfl, s8, hlo8, ho⟩
   refine ⟨by show 0 <= sizeLine; decide, fun lr hlr => ⟨_, rfl, lo, rfl, ⟨_, .of (qai hlo8 hlr)⟩, ?_⟩⟩
   refine qbh (K := K) (a := lo) (xs := oL os) (fun i σ' H' => ∃ (v9 v10 : Option V) (qs : List Addr), σ' = [some (.ref d), some (.int mo), some (.int m), some (.ref lz), some (.int sh), some (.ref lp), some (.bl b), some (.ref lo), some (.ref lr), v9, v10] ∧
     Same H8 H' /\ H' lr = some (.lst (qs.map V.ref)) /\ RowsAt H' qs ((os.take i).map (rowOf zs ks b)))
     ⟨none, none, [], rfl, qaf hlr, qab, rfl, fun i p r e => (nomatch e)⟩ (fun i σ' H' _ ⟨_, _, _, _, s, _⟩ => .of (s _ _ hlo8)) ?_ ?_
   . rintro i x σ' H' hx ⟨v9, v10, qs, rfl, s9, hlr9, rat⟩
     have hix : i < os.length := by
       have := (List.getElem?_eq_some_iff.mp hx).1
       rwa [List.length_map] at this
     obtain ⟨k, hk⟩ : ∃ k, os[i]? = some k := ⟨_, List.getElem?_eq_getElem hix⟩
     have ex : x = V.int ((k : Nat) : Int) := by
       rw [List.getElem?_map, hk] at hx
       exact (Option.some.inj hx).symm
     subst ex
     have hkm : k < m := ho.lt k (List.mem_of_getElem? hk)
     refine ⟨_, rfl, lp, rfl, ⟨_, .of (s9 _ _ (s8 _ _ hp6))⟩, fun D hD => ?_⟩
     have nDr : D ≠ lr := fun e => by rw [e, hlr9] at hD; cases hD
     have hz9 : H' lz = some (.lst (zs.map V.str)) := s9 _ _ (s8 _ _ hz6)
     have pat9 : PairsAt H' ps ks := pat6.mono fun a u h => s9 _ _ (s8 _ _ h)
     refine qbk (K := K) (a := lp) (xs := ps.map V.ref) (fun j σ'' H'' => ∃ v0 v1 : Option V, σ'' = [v0, v1, some (.int k), some (.ref lz)] /\ H'' = upd H' D (.lst (((toN (ks.take j) k).map (zAt zs)).map V.str))) ⟨none, none, rfl, rfl⟩
       (fun j σ'' G _ ⟨_, _, _, e⟩ => e ▸ .of (qai (s9 _ _ (s8 _ _ hp6)) hD)) ?_ ?_
     . rintro j y σ'' G hy ⟨v0, v1, rfl, rfl⟩
       have hj : j < ps.length := by
         have := (List.getElem?_eq_some_iff.mp hy).1
         rwa [List.length_map] at this
       obtain ⟨p, hp⟩ : ∃ p, ps[j]? = some p := ⟨_, List.getElem?_eq_getElem hj⟩
       obtain ⟨kk, hkk⟩ : ∃ p, ks[j]? = some p := ⟨_, List.getElem?_eq_getElem (by rw [← pat9.1]; exact hj)⟩
       have ey : y = V.ref p := by
         rw [List.getElem?_map, hp] at hy
         exact (Option.some.inj hy).symm
       subst ey
       have hpt := pat9.2 j p kk hp hkk
       have hk2 : kk.2 < zs.length := by rw [zl]; exact (klt kk (List.mem_of_getElem? hkk)).2
       refine ⟨p, _, rfl, .of (qai hpt hD), rfl, _, _, rfl, _, _, rfl, rfl, _, rfl, _, rfl, rfl, _, rfl, ?_⟩
       rw [toN_step k hkk]
       by_cases e : kk.1 = k
       . have e1 : decide (V.int ((kk.1 : Nat) : Int) = V.int ((k : Nat) : Int)) = true := decide_eq_true (by rw [e])
         rw [e1, if_pos e]
         refine iteT ⟨_, rfl, _, rfl, lz, _, _, _, rfl, rfl, .of (qai hz9 hD), zs_at hk2, _, qab, ?_, _, _, rfl, ?_⟩
         . rw [List.length_map, List.length_map]
           refine small1000 ?_
           have h1 : (toN (ks.take j) k).length <= (ks.take j).length := by
             unfold toN
             rw [List.length_map]
             exact List.length_filter_le _ _
           rw [List.length_take] at h1
           omega
         . rw [qbl, List.map_append, List.map_append]
           rfl
       . have e1 : decide (V.int ((kk.1 : Nat) : Int) = V.int ((k : Nat) : Int)) = false := decide_eq_false (by
           intro z
           have := V.int.inj z
           omega)
         rw [e1, if_neg e, List.append_nil]
         exact iteF ⟨_, _, rfl, rfl⟩
     . rintro σ'' G ⟨v0, v1, rfl, rfl⟩
       rw [List.length_map, pat9.1, List.take_of_length_le (Nat.le_refl _)]
       refine gName_is ?_
       dsimp only [List.set]
       refine if_any (fun c G => c = b /\ G = upd H' D (.lst (((toN ks k).map (zAt zs)).map V.str)))
         (fun σ' G => σ' = [some (.ref d), some (.int mo), some (.int m), some (.ref lz), some (.int sh), some (.ref lp), some (.bl b), some (.ref lo), some (.ref lr), some (.int k), some (.ref D)] /\ G = upd H' D (.lst ((rowOf zs ks b k).2.map V.str)))
         (fun Q k => ⟨_, rfl, b, rfl, k _ _ ⟨rfl, rfl⟩⟩) ?_ ?_ ?_
       . rintro H1 ⟨rfl, rfl⟩ D' kk
         refine ⟨_, rfl, .inl ⟨rfl, _, .of qab⟩, D, _, rfl, rfl, qab, ?_⟩
         refine kk _ _ ⟨rfl, ?_⟩
         rw [qbl, rowOf, if_pos rfl, List.map_reverse]
       . rintro H1 ⟨rfl, rfl⟩
         exact ⟨rfl, rfl⟩
       rintro σ' G ⟨rfl, rfl⟩
       have hlrG : upd H' D (.lst ((rowOf zs ks b k).2.map V.str)) lr = some (.lst (qs.map V.ref)) := by rw [qah (Ne.symm nDr)]; exact hlr9
       have sG : Same H' (upd H' D (.lst ((rowOf zs ks b k).2.map V.str))) := qaf hD
       refine ⟨_, rfl, .inl ⟨rfl, _, .of hlrG⟩, _, rfl, _, rfl, lz, _, _, _, rfl, rfl, .of (sG _ _ hz9), zs_at (by rw [zl]; exact hkm), _, rfl, D, _, rfl, .inl ⟨.of qab, fun lq hq => ⟨by show 2 <= sizeLine; decide, fun lt hlt => ?_⟩⟩⟩
       have hqlr := qai (o' := HO.tup ((rowOf zs ks b k).2.map V.str)) hlrG hq
       have htlr := qai (o' := HO.tup [V.str (zAt zs k), V.ref lq]) hqlr hlt
       refine ⟨lr, _, _, rfl, rfl, htlr, ?_, _, _, qs ++ [lt], rfl, ?_, ?_, ?_⟩
       . rw [List.length_map, rat.1, List.length_map, List.length_take]
         refine small1000 ?_
         have := ho.len
         omega
       . exact Same.upd (fun a u h => qai (qai (sG _ _ (s9 _ _ h)) hq) hlt) hlr
       . rw [List.map_append]
         exact qab
       . have e : os.take (i + 1) = os.take i ++ [k] := by rw [List.take_add_one, hk]; rfl
         rw [e, List.map_append]
         refine RowsAt.upd_lst ?_ htlr
         exact RowsAt.snoc (q := lq) (rat.mono fun a u h => qai (qai (sG _ _ h) hq) hlt) qab (qai qab hlt)
   . rintro σ' H' ⟨v9, v10, qs, rfl, s9, hlr9, rat⟩
     have e : (oL os).length = os.length := List.length_map ..
     rw [e, List.take_of_length_le (Nat.le_refl _)] at rat
     have h8 : H6 lr = none := by
       cases z : H6 lr with
       | none => rfl
       | some u => rw [s8 _ _ z] at hlr; cases hlr
     refine ⟨_, rfl, q lr qs _ n6 t6 H' (fr6.fresh hd6 h8) hlr9 rat (good_rows b zl zn znd kord klt k40 ho) ?_ ?_ (s9 _ _ (s8 _ _ hd6)) (fr6.same fun a u h => s9 _ _ (s8 _ _ h))⟩
     . rw [List.length_map, ho.len]; exact m0
     . rw [List.length_map, ho.len]; exact m1
end
end Rh
set_option Elab.async false
set_option linter.all false
set_option maxRecDepth 100000
set_option maxHeartbeats 4000000
namespace Rh
open PySem L2 PyProof.Rows
abbrev sTupN : Stmt := top 17
abbrev sIsRow : Stmt := top 18
abbrev sForm : Stmt := top 19
abbrev sOwn : Stmt := top 20
abbrev sEnds : Stmt := top 21
abbrev sFew : Stmt := top 22
abbrev sNeed : Stmt := top 23
theorem nd1 (x : Str) : [x].Nodup := by simp
structure KitP (K : PySem.W.Frag) (mg : Str -> Option Value) : Prop where
 isi : mg "isinstance" = none
 str : mg "str" = none
 all : mg "all" = none
 enu : mg "enumerate" = none
 sum : mg "sum" = none
 lets : ∃ t, mg "LETTERS" = some (.str abc t)
 lgst : ∃ t, mg "LONGEST_NAME" = some (.int 8 t)
 mp : ∃ t, mg "MOST_PLACES" = some (.int 14 t)
 mr : ∃ t, mg "MOST_ROADS" = some (.int 40 t)
 kss : PySem.W.kitOne K (.type "str") (.type "str") = some true
 ktt : PySem.W.kitOne K (.type "tuple") (.type "tuple") = some true
 kll : PySem.W.kitOne K (.type "list") (.type "list") = some true
theorem in_abc (c : Nat) : (!(Builtin.Str.occurrences abc ⟨#[c]⟩ 0 abc.length 1).isEmpty) = letter c := by
 rw [StrLaws.found_one, abc_up]
 unfold letter
 rw [Bool.eq_iff_iff]
 simp only [decide_eq_true_eq, Bool.and_eq_true, List.mem_map, List.mem_range]
 constructor
 . rintro ⟨k, hk, rfl⟩
   omega
 . intro h
   exact ⟨c - 97, by omega, by omega⟩
theorem all_snoc (f : Nat -> Bool) (l : List Nat) (i c : Nat) (h : l[i]? = some c) : (l.take i).map f ++ [f c] = (l.take (i + 1)).map f := by
 rw [List.take_add_one, h]
 simp
def spNm : Sp := fun vs H Q _ => ∃ z, vs = [.str z] /\ isName z = true /\ ∀ H', Same H H' -> Q (.bl true) H'
def spTN : Sp := fun vs H Q _ => ∃ (q : Addr) (zs : List Str), vs = [.ref q] /\ H q = some (.tup (zs.map V.str)) /\ (∀ z ∈ zs, isName z = true) /\ zs.length <= 1000 /\ ∀ H', Same H H' -> Q (.bl true) H'
def spRow : Sp := fun vs H Q _ => ∃ (p q : Addr) (r : Str × List Str), vs = [.ref p] /\ H p = some (.tup [.str r.1, .ref q]) /\ H q = some (.tup (r.2.map V.str)) /\ isName r.1 = true /\ (∀ z ∈ r.2, isName z = true) /\ r.2.length <= 1000 /\ ∀ H', Same H H' -> Q (.bl true) H'
structure GoodAt (H : Hp) (l : Addr) (ps : List Addr) (rs : List (Str × List Str)) : Prop where
 at_ : H l = some (.lst (ps.map V.ref))
 rows : RowsAt H ps rs
 good : GoodRows rs
 pos : 0 < rs.length
 le : rs.length <= 14
theorem GoodAt.mono {H H' : Hp} {l : Addr} {ps : List Addr} {rs : List (Str × List Str)} (h : GoodAt H l ps rs) (s : Same H H') : GoodAt H' l ps rs := ⟨s _ _ h.at_, h.rows.mono s, h.good, h.pos, h.le⟩
theorem GoodRows.names {rs : List (Str × List Str)} (h : GoodRows rs) : ∀ r ∈ rs, ∀ z ∈ r.2, isName z = true := fun r hr z hz => by
 obtain ⟨r', hr', rfl⟩ := List.mem_map.mp (h.to r hr z hz)
 exact h.nm r' hr'
theorem GoodRows.len {rs : List (Str × List Str)} (h : GoodRows rs) : ∀ r ∈ rs, r.2.length <= 40 := fun r hr => by
 refine Nat.le_trans ?_ h.few
 have : ∀ (rs : List (Str × List Str)), r ∈ rs -> r.2.length <= (rs.map fun r => r.2.length).sum := by
   intro rs
   induction rs with
   | nil => intro h; cases h
   | cons a rs ih =>
     intro h
     rw [List.map_cons, List.sum_cons]
     rcases List.mem_cons.mp h with rfl | h
     . omega
     . have := ih h
       omega
 exact this rs hr
theorem RowsAt.item {H : Hp} {ps : List Addr} {rs : List (Str × List Str)} (h : RowsAt H ps rs) {i : Nat} {x : V} (hx : (ps.map V.ref)[i]? = some x) : ∃ p q r, x = .ref p /\ rs[i]? = some r /\ r ∈ rs /\ H p = some (.tup [.str r.1, .ref q]) /\ H q = some (.tup (r.2.map V.str)) := by
 rw [List.getElem?_map] at hx
 cases e : ps[i]? with
 | none => rw [e] at hx; cases hx
 | some p =>
   rw [e] at hx
   have hi : i < rs.length := by
     have := (List.getElem?_eq_some_iff.mp e).1
     rw [h.1] at this
     exact this
   obtain ⟨q, a, b⟩ := h.2 i p _ e (List.getElem?_eq_getElem hi)
   exact ⟨p, q, _, (Option.some.inj hx).symm, List.getElem?_eq_getElem hi, List.getElem_mem hi, a, b⟩
def spGood : Sp := fun vs H Q _ => ∃ (l : Addr) (ps : List Addr) (rs : List (Str × List Str)), vs = [.ref l] /\ GoodAt H l ps rs /\ ∀ H', Same H H' -> Q .non H'
def spOwn : Sp := fun vs H Q _ => ∃ (l : Addr) (zs : List Str), vs = [.ref l] /\ H l = some (.lst (zs.map V.str)) /\ zs.Nodup /\ zs.length <= 1000 /\ ∀ H', Same H H' -> Q .non H'
def spEnds : Sp := fun vs H Q _ => ∃ (q l : Addr) (es zs : List Str), vs = [.ref q, .ref l] /\ H q = some (.tup (es.map V.str)) /\ H l = some (.lst (zs.map V.str)) /\ es.Nodup /\ (∀ z ∈ es, z ∈ zs) /\ es.length <= 900 /\ ∀ H', Same H H' -> Q .non H'
theorem valV_out {kvs : List (Key × V)} {k : Key} (h : ¬ k ∈ kvs.map (·.1)) : valV kvs k = none := by
 cases e : valV kvs k with
 | none => rfl
 | some v => exact absurd (valV_in e) h
theorem qct (zs : List Str) : (zs.map V.str).all flatV = true := by
 rw [List.all_map, List.all_eq_true]
 intro z _
 rfl
theorem inV_str {z : Str} {zs : List Str} (h : z ∈ zs) : inV (.str z) (zs.map V.str) = true := by
 unfold inV
 rw [List.any_eq_true]
 exact ⟨.str z, List.mem_map.mpr ⟨z, h, rfl⟩, by show (z == z) = true; simp⟩
section
variable {P : Program} {w : World} {K : PySem.W.Frag} {mg : Str -> Option Value} {base : Heap}
theorem scName : FnScope ["thing"] ["thing"] (defScope sName) := ⟨rfl, rfl, rfl, by decide +kernel, rfl, by decide +kernel, by decide +kernel⟩
theorem ok_name {f : Addr} {fd : FuncData} (F : Fun K "is_name" "is_name" sName f fd) (B : Blt mg) (T : KitP K mg) : FnOk P w K mg base CX0 1 f fd ["thing"] spNm := by
 refine F.okJ scName (fun vs H Q E h => ?_) (fun cdv A outer s H vs Q E hr h => ?_)
 . obtain ⟨x, rfl, _⟩ := h
   rfl
 . obtain ⟨z, rfl, hz, q⟩ := h
   obtain ⟨tl, hlets⟩ := T.lets
   obtain ⟨tg, hlg⟩ := T.lgst
   refine ⟨_, qac (qba (jt_not (qbv (qan qbe (by rfl) T.isi boot_isinstance (qaa (jv 0) (qaa (qco (v := .ty "str") (by rfl) T.str boot_str rfl) qad))))) (qae (qal qcp)) qap)
     (qac (qba (jw_or (qak op_lt (qan call_len_str (by rfl) B.len boot_len (qaa (jv 0) qad)) qag (nomark _))
         (jw_or1 (qak op_gt (qan call_len_str (by rfl) B.len boot_len (qaa (jv 0) qad)) (je_glob (v := .int 8) (by rfl) hlg ⟨_, rfl⟩) (nomark _)))).pt (qae (qal qcp)) qap)
     (qae (qal (qan (call_allB rfl) (by rfl) T.all boot_all (qaa (qcg (N' := ["sign"]) (ix := [none]) rfl ⟨rfl, rfl, rfl, rfl, rfl⟩ (ji_str (jv 0)) (fun C s2 H2 fp pins =>
       ⟨qaj (i := 0) (nd1 _) rfl (Or.inl rfl), qbo, qcn op_in_str (jv 0) (je_glob (v := .str abc) (by rfl) hlets ⟨_, rfl⟩) (by with_unfolding_all rfl)⟩)) qad))))), ?_⟩
   have hn := hz
   unfold isName at hn
   simp only [Bool.and_eq_true, decide_eq_true_eq] at hn
   obtain ⟨⟨n1, n8⟩, na⟩ := hn
   have hz' : z.length <= sizeLine := Nat.le_of_lt (small1000 (by omega))
   refine ⟨_, rfl, _, _, _, _, rfl, rfl, .str z, T.kss, _, rfl, iteF ?_⟩
   refine ⟨_, rfl, z, rfl, hz', _, _, rfl, rfl, _, rfl, ?_⟩
   refine ite2 (fun h => ?_) (fun h => ?_)
   . exact absurd (of_decide_eq_true h) (by omega)
   . refine ⟨_, rfl, z, rfl, hz', _, _, rfl, rfl, _, rfl, ?_⟩
     refine ite2 (fun h2 => ?_) (fun h2 => ?_)
     . exact absurd (of_decide_eq_true h2) (by show ¬ (8 : Int) < (z.length : Int); omega)
     . refine ⟨_, rfl, z, rfl, fun D hD => ?_⟩
       refine blk_str (fun i σ' H' => ∃ v, σ' = [v] /\ H' = upd H D (.lst (((z.cps.toList.take i).map letter).map V.bl))) ⟨none, rfl, rfl⟩ ?_ ?_
       . rintro i c σ' H' hc ⟨v, rfl, rfl⟩
         refine ⟨_, rfl, _, _, rfl, rfl, _, qab, ?_, ?_⟩
         . rw [List.length_map, List.length_map, List.length_take]
           exact Nat.lt_of_le_of_lt (Nat.min_le_right _ _) (small1000 (show z.cps.toList.length <= 1000 by rw [Array.length_toList]; exact Nat.le_trans n8 (by decide)))
         . refine ⟨_, rfl, ?_⟩
           rw [qbl, in_abc]
           have hc' : z.cps.toList[i]? = some c := by simpa using hc
           rw [← all_snoc letter z.cps.toList i c hc', List.map_append]
           rfl
       . rintro σ' H' ⟨v, rfl, rfl⟩
         refine ⟨D, _, rfl, .of qab, ?_⟩
         have e0 : z.cps.toList.take z.cps.size = z.cps.toList := List.take_of_length_le (by simp)
         have e1 : (z.cps.toList.map letter).all id = true := by rw [List.all_map]; exact na
         rw [e0, e1]
         exact q _ (qaf hD)
theorem scTupN : FnScope ["thing"] ["thing"] (defScope sTupN) := ⟨rfl, rfl, rfl, by decide +kernel, rfl, by decide +kernel, by decide +kernel⟩
theorem ok_tupn {f fN : Addr} {fd fdN : FuncData} (F : Fun K "is_tuple_of_names" "is_tuple_of_names" sTupN f fd) (B : Blt mg) (G : KitG mg) (T : KitP K mg) (hN : Has K mg "is_name" sName ["thing"] fN fdN) : FnOk P w K mg base CX0 2 f fd ["thing"] spTN := by
 have GN : FnOk P w K mg base CX0 1 fN fdN ["thing"] spNm := ok_name hN.fn B T
 refine F.okJ scTupN (fun vs H Q E h => ?_) (fun cdv A outer s H vs Q E hr h => ?_)
 . obtain ⟨x, zs, rfl, _⟩ := h
   rfl
 . obtain ⟨x, zs, rfl, hx, hz, hl, q⟩ := h
   refine ⟨_, qae (qal (je_and (qan qbe (by rfl) T.isi boot_isinstance (qaa (jv 0) (qaa (qco (v := .ty "tuple") (by rfl) G.tup boot_tuple rfl) qad)))
     (je_one (qan (call_allB rfl) (by rfl) T.all boot_all (qaa (qcg (N' := ["part"]) (ix := [none]) rfl ⟨rfl, rfl, rfl, rfl, rfl⟩ (ji_tup (jv 0)) (fun C s2 H2 fp pins =>
       ⟨qaj (i := 0) (nd1 _) rfl (Or.inl rfl), qbo, je_f hN GN hr (by rfl) (qaa (jv 0) qad)⟩)) qad))))), ?_⟩
   refine ⟨_, rfl, _, _, _, _, rfl, rfl, .tup hx, T.ktt, _, rfl, iteT ⟨_, rfl, x, rfl, ⟨_, .of hx⟩, fun D hD => ?_⟩⟩
   refine blk_tup (K := K) (a := x) (xs := zs.map V.str) (fun i σ' H' => ∃ v, σ' = [v] /\ Same H H' /\ H' D = some (.lst ((List.replicate i true).map V.bl))) ⟨none, rfl, qaf hD, qab⟩ (fun i σ' H' _ ⟨_, _, s, _⟩ => .of (s _ _ hx)) ?_ ?_
   . rintro i y σ' H' hy ⟨v, rfl, s1, hD1⟩
     rw [List.getElem?_map] at hy
     cases e : zs[i]? with
     | none => rw [e] at hy; cases hy
     | some z =>
       rw [e] at hy
       obtain rfl := (Option.some.inj hy).symm
       have hi := (List.getElem?_eq_some_iff.mp e).1
       refine ⟨_, rfl, z, rfl, hz z (List.mem_of_getElem? e), fun H2 s2 => ⟨_, s2 _ _ hD1, ?_, _, rfl, ?_, ?_⟩⟩
       . rw [List.length_map, List.length_replicate]
         exact small1000 (by omega)
       . exact Same.upd (s1.trans s2) hD
       . rw [qab, List.replicate_succ', List.map_append]
         rfl
   . rintro σ' H' ⟨v, rfl, s1, hD1⟩
     refine ⟨D, _, rfl, .of hD1, ?_⟩
     have e : (List.replicate (zs.map V.str).length true).all id = true := by simp
     rw [e]
     exact q _ s1
theorem scIsRow : FnScope ["thing"] ["thing"] (defScope sIsRow) := ⟨rfl, rfl, rfl, by decide +kernel, rfl, by decide +kernel, by decide +kernel⟩
theorem ok_isrow {f fN fP : Addr} {fd fdN fdP : FuncData} (F : Fun K "is_row" "is_row" sIsRow f fd) (B : Blt mg) (G : KitG mg) (T : KitP K mg) (hN : Has K mg "is_name" sName ["thing"] fN fdN) (hP : Has K mg "is_tuple_of_names" sTupN ["thing"] fP fdP) : FnOk P w K mg base CX0 3 f fd ["thing"] spRow := by
 have GN : FnOk P w K mg base CX0 1 fN fdN ["thing"] spNm := ok_name hN.fn B T
 have GP : FnOk P w K mg base CX0 2 fP fdP ["thing"] spTN := ok_tupn hP.fn B G T hN
 refine F.okJ scIsRow (fun vs H Q E h => ?_) (fun cdv A outer s H vs Q E hr h => ?_)
 . obtain ⟨p, x, r, rfl, _⟩ := h
   rfl
 . obtain ⟨p, x, r, rfl, hp, hx, hn, hz, hl, q⟩ := h
   refine ⟨_, qac (qba (jw_or (jt_not (qbv (qan qbe (by rfl) T.isi boot_isinstance (qaa (jv 0) (qaa (qco (v := .ty "tuple") (by rfl) G.tup boot_tuple rfl) qad)))))
       (jw_or1 (qak op_ne (qan qas (by rfl) B.len boot_len (qaa (jv 0) qad)) qag (nomark _)))).pt qbb qap)
     (qae (qal (je_and (je_f hN GN (hr.mono (by decide)) (by rfl) (qaa (qbs qbu (jv 0) qag (fun _ _ => rfl)) qad)) (je_one (je_f hP GP hr (by rfl) (qaa (qbs qbu (jv 0) qag (fun _ _ => rfl)) qad)))))), ?_⟩
   refine ⟨_, rfl, _, _, _, _, rfl, rfl, .tup hp, T.ktt, _, rfl, iteF ⟨_, rfl, p, _, rfl, .inr (.of hp), rfl, _, rfl, iteF ?_⟩⟩
   refine ⟨_, rfl, p, _, 0, _, rfl, rfl, .of hp, rfl, r.1, rfl, hn, fun H1 s1 => ⟨_, rfl, iteT ?_⟩⟩
   exact ⟨_, rfl, p, _, 1, _, rfl, rfl, .of (s1 _ _ hp), rfl, x, r.2, rfl, s1 _ _ hx, hz, hl, fun H2 s2 => q H2 (s1.trans s2)⟩
end
end Rh
set_option Elab.async false
set_option linter.all false
set_option maxRecDepth 100000
set_option maxHeartbeats 4000000
namespace Rh
open PySem L2 PyProof.Rows
section
variable {P : Program} {w : World} {K : PySem.W.Frag} {mg : Str -> Option Value} {base : Heap}
abbrev nForm : List Str := ["rows", "number", "row"]
theorem scForm : FnScope nForm ["rows"] (defScope sForm) := ⟨rfl, rfl, rfl, by decide +kernel, rfl, by decide +kernel, by decide +kernel⟩
theorem ok_form {f fN fP fR : Addr} {fd fdN fdP fdR : FuncData} (F : Fun K "need_form" "need_form" sForm f fd) (B : Blt mg) (G : KitG mg) (T : KitP K mg) (hN : Has K mg "is_name" sName ["thing"] fN fdN) (hP : Has K mg "is_tuple_of_names" sTupN ["thing"] fP fdP)
   (hR : Has K mg "is_row" sIsRow ["thing"] fR fdR) : FnOk P w K mg base CX0 4 f fd ["rows"] spGood := by
 have GR : FnOk P w K mg base CX0 3 fR fdR ["thing"] spRow := ok_isrow hR.fn B G T hN hP
 obtain ⟨tm, hmp⟩ := T.mp
 refine F.okJ scForm (fun vs H Q E h => ?_) (fun cdv A outer s H vs Q E hr h => ?_)
 . obtain ⟨l, ps, rs, rfl, _⟩ := h
   rfl
 . obtain ⟨l, ps, rs, rfl, g, q⟩ := h
   refine ⟨_, qac (qba (jw_or (jt_not (qbv (qan qbe (by rfl) T.isi boot_isinstance (qaa (jv 0) (qaa (qco (v := .ty "list") (by rfl) G.lst boot_list rfl) qad)))))
       (jw_or1 (qak op_eq (qan qas (by rfl) B.len boot_len (qaa (jv 0) qad)) qag (nomark _)))).pt qbb qap)
     (qac (qba (qak op_gt (qan qas (by rfl) B.len boot_len (qaa (jv 0) qad)) (je_glob (v := .int 14) (by rfl) hmp ⟨_, rfl⟩) (nomark _)) qbb qap)
     (qae (qbf PassesOwn.never rfl (ji_enum (by rfl) T.enu (qaa (jv 0) qad)) (jg_tup rfl (qbg (qaj (i := 1) scForm.nd rfl (Or.inl rfl)) (qbg (qaj (i := 2) scForm.nd rfl (Or.inl rfl)) jgs_nil)))
       (qae (qba (jt_not (qbv (je_f hR GR hr (by rfl) (qaa (jv 2) qad)))) qbb qap))))), ?_⟩
   have lp : (ps.map V.ref).length = rs.length := by rw [List.length_map, g.rows.1]
   refine ⟨_, rfl, _, _, _, _, rfl, rfl, .lst g.at_, T.kll, _, rfl, iteF ⟨_, rfl, l, _, rfl, .inl (.of g.at_), rfl, _, rfl, ?_⟩⟩
   have e0 : decide (V.int (((ps.map V.ref).length : Nat) : Int) = V.int 0) = false := decide_eq_false (by
     intro z
     have := V.int.inj z
     have := g.pos
     omega)
   rw [e0]
   refine iteF ⟨_, rfl, l, _, rfl, .inl (.of g.at_), _, _, rfl, rfl, _, rfl, ?_⟩
   have e1 : decide ((14 : Int) < (((ps.map V.ref).length : Nat) : Int)) = false := decide_eq_false (by
     have := g.le
     omega)
   refine ite2 (fun z => absurd z (by rw [e1]; decide)) (fun _ => ?_)
   refine ⟨_, rfl, l, rfl, ⟨_, .of g.at_⟩, ?_⟩
   refine for_enum (K := K) (a := l) (xs := ps.map V.ref) (fun i σ' H' => ∃ v1 v2, σ' = [some (.ref l), v1, v2] /\ Same H H') ⟨none, none, rfl, Same.refl H⟩ (fun i σ' H' _ ⟨_, _, _, s⟩ => .of (s _ _ g.at_)) ?_ ?_
   . rintro i x σ' H' p hx hp ⟨v1, v2, rfl, s1⟩
     have g1 := g.mono (s1.trans (qaf (o := .tup [.int (i : Nat), x]) hp))
     obtain ⟨p', q', r, rfl, _, hr', a, b⟩ := g1.rows.item hx
     refine ⟨p, _, rfl, .of qab, rfl, _, _, rfl, _, _, rfl, rfl, _, rfl, p', q', r, rfl, a, b, g.good.nm r hr', g.good.names r hr', Nat.le_trans (g.good.len r hr') (by decide), fun H2 s2 => ⟨_, rfl, iteF ⟨_, _, rfl, ?_⟩⟩⟩
     exact (s1.trans (qaf hp)).trans s2
   . rintro σ' H' ⟨v1, v2, rfl, s1⟩
     exact q H' s1
abbrev nOwn : List Str := ["order", "ahead", "name"]
theorem scOwn : FnScope nOwn ["order"] (defScope sOwn) := ⟨rfl, rfl, rfl, by decide +kernel, rfl, by decide +kernel, by decide +kernel⟩
theorem not_taken {zs : List Str} (hn : zs.Nodup) {i : Nat} {z : Str} (e : zs[i]? = some z) : ¬ (Sum.inr z : Key) ∈ (zs.take i).map Sum.inr := fun h => by
 obtain ⟨y, hy, ey⟩ := List.mem_map.mp h
 have ey' : y = z := Sum.inr.inj ey
 subst ey'
 obtain ⟨j, hj⟩ := List.getElem?_of_mem hy
 have hj1 := (List.getElem?_eq_some_iff.mp hj).1
 rw [List.length_take] at hj1
 have hji : j < i := by omega
 rw [List.getElem?_take_of_lt hji] at hj
 have h1 := (List.getElem?_eq_some_iff.mp hj)
 have h2 := (List.getElem?_eq_some_iff.mp e)
 exact absurd (h1.2.trans h2.2.symm) (List.pairwise_iff_getElem.mp hn j i h1.1 h2.1 hji)
theorem put_new {kvs : List (Key × V)} {k : Key} (v : V) (h : valV kvs k = none) : (putK kvs k v).map (·.1) = kvs.map (·.1) ++ [k] := by
 rw [putK_new v h, List.map_append]
 rfl
theorem ok_own {f : Addr} {fd : FuncData} (F : Fun K "need_own_names" "need_own_names" sOwn f fd) : FnOk P w K mg base CX0 1 f fd ["order"] spOwn := by
 refine F.okJ scOwn (fun vs H Q E h => ?_) (fun cdv A outer s H vs Q E hr h => ?_)
 . obtain ⟨l, zs, rfl, _⟩ := h
   rfl
 . obtain ⟨l, zs, rfl, hl, hn, hz, q⟩ := h
   have hu := hu_of hr
   refine ⟨_, qac (qao (i := 1) scOwn.nd rfl (Or.inl rfl) qch)
     (qae (qbf PassesOwn.never rfl (qar (jv 0)) (qaj (i := 2) scOwn.nd rfl (Or.inl rfl))
       (qac (qba (qcs (jc_din hu (jv 2) (jv 1))) qbb qap) (qae (qbi hu (jv 1) (jv 2) qcp rfl))))), ?_⟩
   intro D hD
   refine ⟨_, rfl, l, rfl, ⟨_, .of (qai hl hD)⟩, ?_⟩
   refine qbh (K := K) (a := l) (xs := zs.map V.str) (fun i σ' H' => ∃ v kvs, σ' = [some (.ref l), some (.ref D), v] /\ Same H H' /\ H' D = some (.dK kvs) /\ kvs.map (·.1) = (zs.take i).map Sum.inr) ⟨none, [], rfl, qaf hD, qab, rfl⟩ (fun i σ' H' _ ⟨_, _, _, s, _⟩ => .of (s _ _ hl)) ?_ ?_
   . rintro i x σ' H' hx ⟨v, kvs, rfl, s1, hD1, ek⟩
     rw [List.getElem?_map] at hx
     cases e : zs[i]? with
     | none => rw [e] at hx; cases hx
     | some z =>
       rw [e] at hx
       obtain rfl := (Option.some.inj hx).symm
       have hi := (List.getElem?_eq_some_iff.mp e).1
       have ez : valV kvs (Sum.inr z : Key) = none := valV_out (by rw [ek]; exact not_taken hn e)
       have gz : DGet H' D (.str z) none := by
         have := DGet.k (k := (Sum.inr z : Key)) hD1
         rw [ez] at this
         exact this
       have lk : kvs.length < sizeLine := by
         have := congrArg List.length ek
         rw [List.length_map, List.length_map, List.length_take] at this
         exact small1000 (by omega)
       refine ⟨_, rfl, _, rfl, D, none, rfl, gz, _, rfl, iteF ?_⟩
       refine ⟨_, rfl, _, rfl, D, _, rfl, DPut.k (k := (Sum.inr z : Key)) hD1 lk, _, _, rfl, Same.upd s1 hD, qab, ?_⟩
       rw [put_new _ ez, ek, List.take_add_one, e, List.map_append]
       rfl
   . rintro σ' H' ⟨v, kvs, rfl, s1, _⟩
     exact q H' s1
abbrev nEnds : List Str := ["ends", "order", "ahead", "name"]
theorem scEnds : FnScope nEnds ["ends", "order"] (defScope sEnds) := ⟨rfl, rfl, rfl, by decide +kernel, rfl, by decide +kernel, by decide +kernel⟩
theorem ok_ends {f : Addr} {fd : FuncData} (F : Fun K "need_ends" "need_ends" sEnds f fd) : FnOk P w K mg base CX0 1 f fd ["ends", "order"] spEnds := by
 refine F.okJ scEnds (fun vs H Q E h => ?_) (fun cdv A outer s H vs Q E hr h => ?_)
 . obtain ⟨x, l, es, zs, rfl, _⟩ := h
   rfl
 . obtain ⟨x, l, es, zs, rfl, hx, hl, hn, hin, hz, q⟩ := h
   have hu := hu_of hr
   refine ⟨_, qac (qao (i := 2) scEnds.nd rfl (Or.inl rfl) qch)
     (qae (qbf PassesOwn.never rfl (ji_tup (jv 0)) (qaj (i := 3) scEnds.nd rfl (Or.inl rfl))
       (qac (qba (qak qcm (jv 3) (jv 1) (by with_unfolding_all rfl)) qbb qap)
       (qac (qba (qcs (jc_din hu (jv 3) (jv 2))) qbb qap) (qae (qbi hu (jv 2) (jv 3) qcp rfl)))))), ?_⟩
   intro D hD
   refine ⟨_, rfl, x, rfl, ⟨_, .of (qai hx hD)⟩, ?_⟩
   refine for_tup (K := K) (a := x) (xs := es.map V.str) (fun i σ' H' => ∃ v kvs, σ' = [some (.ref x), some (.ref l), some (.ref D), v] /\ Same H H' /\ H' D = some (.dK kvs) /\ kvs.map (·.1) = (es.take i).map Sum.inr) ⟨none, [], rfl, qaf hD, qab, rfl⟩ (fun i σ' H' _ ⟨_, _, _, s, _⟩ => .of (s _ _ hx)) ?_ ?_
   . rintro i y σ' H' hy ⟨v, kvs, rfl, s1, hD1, ek⟩
     rw [List.getElem?_map] at hy
     cases e : es[i]? with
     | none => rw [e] at hy; cases hy
     | some z =>
       rw [e] at hy
       obtain rfl := (Option.some.inj hy).symm
       have hi := (List.getElem?_eq_some_iff.mp e).1
       have ez : valV kvs (Sum.inr z : Key) = none := valV_out (by rw [ek]; exact not_taken hn e)
       have gz : DGet H' D (.str z) none := by
         have := DGet.k (k := (Sum.inr z : Key)) hD1
         rw [ez] at this
         exact this
       have lk : kvs.length < sizeLine := by
         have := congrArg List.length ek
         rw [List.length_map, List.length_map, List.length_take] at this
         exact small1000 (by omega)
       refine ⟨_, rfl, _, rfl, l, _, rfl, .inl (.of (s1 _ _ hl)), rfl, qct zs, _, rfl, ?_⟩
       rw [inV_str (hin z (List.mem_of_getElem? e))]
       refine iteF ⟨_, rfl, _, rfl, D, none, rfl, gz, _, rfl, iteF ?_⟩
       refine ⟨_, rfl, _, rfl, D, _, rfl, DPut.k (k := (Sum.inr z : Key)) hD1 lk, _, _, rfl, Same.upd s1 hD, qab, ?_⟩
       rw [put_new _ ez, ek, List.take_add_one, e, List.map_append]
       rfl
   . rintro σ' H' ⟨v, kvs, rfl, s1, _⟩
     exact q H' s1
abbrev nFew : List Str := ["rows", "many"]
theorem scFew : FnScope nFew ["rows"] (defScope sFew) := ⟨rfl, rfl, rfl, by decide +kernel, rfl, by decide +kernel, by decide +kernel⟩
theorem ok_few {f : Addr} {fd : FuncData} (F : Fun K "need_few_roads" "need_few_roads" sFew f fd) (B : Blt mg) (T : KitP K mg) : FnOk P w K mg base CX0 1 f fd ["rows"] spGood := by
 obtain ⟨tm, hmr⟩ := T.mr
 refine F.okJ scFew (fun vs H Q E h => ?_) (fun cdv A outer s H vs Q E hr h => ?_)
 . obtain ⟨l, ps, rs, rfl, _⟩ := h
   rfl
 . obtain ⟨l, ps, rs, rfl, g, q⟩ := h
   refine ⟨_, qac (qao (i := 1) scFew.nd rfl (Or.inl rfl) (qan (call_sumN rfl) (by rfl) T.sum boot_sum (qaa (qcg (N' := ["row"]) (ix := [none]) (te := tCB (fun xs H Q => ∃ p ys, xs = [.ref p] /\ (SqL K H p ys ∨ SqT K H p ys) /\ Q (.int ys.length) H) (tCons (tOp (rIxT K) (tVar 0) (tC (.int 1))) tNil)) rfl ⟨rfl, rfl, rfl, rfl, rfl⟩ (qar (jv 0)) (fun C s2 H2 fp pins =>
       ⟨qaj (i := 0) (nd1 _) rfl (Or.inl rfl), qbo, qan qas (by rfl) B.len boot_len (qaa (qbs qbu (jv 0) qag (fun _ _ => rfl)) qad)⟩)) qad)))
     (qae (qba (qak op_gt (jv 1) (je_glob (v := .int 40) (by rfl) hmr ⟨_, rfl⟩) (nomark _)) qbb qap)), ?_⟩
   refine ⟨_, rfl, l, rfl, ⟨_, .of g.at_⟩, fun D hD => ?_⟩
   refine qbk (K := K) (a := l) (xs := ps.map V.ref) (fun i σ' H' => ∃ v, σ' = [v] /\ H' = upd H D (.lst (((rs.take i).map fun r => r.2.length).map fun n => V.int ((n : Nat) : Int)))) ⟨none, rfl, rfl⟩ (fun i σ' H' _ ⟨_, _, e⟩ => e ▸ .of (qai g.at_ hD)) ?_ ?_
   . rintro i x σ' H' hx ⟨v, rfl, rfl⟩
     obtain ⟨p', q', r, rfl, er, hr', a, b⟩ := g.rows.item hx
     have hi := (List.getElem?_eq_some_iff.mp er).1
     refine ⟨_, rfl, p', _, 1, _, rfl, rfl, .of (qai a hD), rfl, q', _, rfl, .inr (.of (qai b hD)), _, qab, ?_, _, rfl, ?_⟩
     . rw [List.length_map, List.length_map, List.length_take]
       have := g.le
       exact small1000 (by omega)
     . rw [qbl, List.take_add_one, er, List.map_append, List.map_append, List.length_map]
       rfl
   . rintro σ' H' ⟨v, rfl, rfl⟩
     have e : rs.take (ps.map V.ref).length = rs := List.take_of_length_le (by rw [List.length_map, g.rows.1]; exact Nat.le_refl _)
     rw [e]
     refine ⟨D, _, rfl, .of qab, Nat.lt_of_le_of_lt g.good.few (by decide), ?_⟩
     refine ⟨_, rfl, _, _, rfl, rfl, _, rfl, ?_⟩
     have := g.good.few
     refine ite2 (fun z => absurd (of_decide_eq_true z) ?_) (fun _ => q _ (qaf hD))
     show ¬ (40 : Int) < _
     omega
abbrev nNeed : List Str := ["rows", "order", "row"]
theorem scNeed : FnScope nNeed ["rows"] (defScope sNeed) := ⟨rfl, rfl, rfl, by decide +kernel, rfl, by decide +kernel, by decide +kernel⟩
structure HasN (K : PySem.W.Frag) (mg : Str -> Option Value) : Prop where
 nm : ∃ f fd, Has K mg "is_name" sName ["thing"] f fd
 tn : ∃ f fd, Has K mg "is_tuple_of_names" sTupN ["thing"] f fd
 rw : ∃ f fd, Has K mg "is_row" sIsRow ["thing"] f fd
 fo : ∃ f fd, Has K mg "need_form" sForm ["rows"] f fd
 ow : ∃ f fd, Has K mg "need_own_names" sOwn ["order"] f fd
 en : ∃ f fd, Has K mg "need_ends" sEnds ["ends", "order"] f fd
 fw : ∃ f fd, Has K mg "need_few_roads" sFew ["rows"] f fd
theorem ok_need {f : Addr} {fd : FuncData} (F : Fun K "need_rows" "need_rows" sNeed f fd) (B : Blt mg) (G : KitG mg) (T : KitP K mg) (N : HasN K mg) : FnOk P w K mg base CX0 5 f fd ["rows"] spGood := by
 obtain ⟨fN, fdN, hN⟩ := N.nm
 obtain ⟨fP, fdP, hP⟩ := N.tn
 obtain ⟨fR, fdR, hR⟩ := N.rw
 obtain ⟨fF, fdF, hF⟩ := N.fo
 obtain ⟨fO, fdO, hO⟩ := N.ow
 obtain ⟨fE, fdE, hE⟩ := N.en
 obtain ⟨fW, fdW, hW⟩ := N.fw
 have GF : FnOk P w K mg base CX0 4 fF fdF ["rows"] spGood := ok_form hF.fn B G T hN hP hR
 have GO : FnOk P w K mg base CX0 1 fO fdO ["order"] spOwn := ok_own hO.fn
 have GE : FnOk P w K mg base CX0 1 fE fdE ["ends", "order"] spEnds := ok_ends hE.fn
 have GW : FnOk P w K mg base CX0 1 fW fdW ["rows"] spGood := ok_few hW.fn B T
 refine F.okJ scNeed (fun vs H Q E h => ?_) (fun cdv A outer s H vs Q E hr h => ?_)
 . obtain ⟨l, ps, rs, rfl, _⟩ := h
   rfl
 . obtain ⟨l, ps, rs, rfl, g, q⟩ := h
   refine ⟨_, qac (qbp (je_f hF GF hr (by rfl) (qaa (jv 0) qad)))
     (qac (qcw (i := 1) (N' := ["row"]) (ix := [none]) (te := tOp (rIxT K) (tVar 0) (tC (.int 0))) scNeed.nd rfl (Or.inl rfl) rfl ⟨rfl, rfl, rfl, rfl, rfl⟩ (qar (jv 0)) (fun C s2 H2 fp pins =>
       ⟨qaj (i := 0) (nd1 _) rfl (Or.inl rfl), qbo, qbs qbu (jv 0) qag (fun _ _ => rfl)⟩))
     (qac (qbp (je_f hO GO (hr.mono (by decide)) (by rfl) (qaa (jv 1) qad)))
     (qac (qbf PassesOwn.never rfl (qar (jv 0)) (qaj (i := 2) scNeed.nd rfl (Or.inl rfl))
       (qae (qbp (je_f hE GE (hr.mono (by decide)) (by rfl) (qaa (qbs qbu (jv 2) qag (fun _ _ => rfl)) (qaa (jv 1) qad))))))
     (qae (qbp (je_f hW GW (hr.mono (by decide)) (by rfl) (qaa (jv 0) qad))))))), ?_⟩
   refine ⟨_, rfl, l, ps, rs, rfl, g, fun H1 s1 => ?_⟩
   have g1 := g.mono s1
   refine ⟨_, rfl, l, rfl, ⟨_, .of g1.at_⟩, fun D hD => ?_⟩
   refine qbk (K := K) (a := l) (xs := ps.map V.ref) (fun i σ' H' => ∃ v, σ' = [v] /\ H' = upd H1 D (.lst (((rs.take i).map (·.1)).map V.str))) ⟨none, rfl, rfl⟩ (fun i σ' H' _ ⟨_, _, e⟩ => e ▸ .of (qai g1.at_ hD)) ?_ ?_
   . rintro i x σ' H' hx ⟨v, rfl, rfl⟩
     obtain ⟨p', q', r, rfl, er, hr', a, b⟩ := g1.rows.item hx
     have hi := (List.getElem?_eq_some_iff.mp er).1
     refine ⟨_, rfl, p', _, 0, _, rfl, rfl, .of (qai a hD), rfl, _, qab, ?_, _, rfl, ?_⟩
     . rw [List.length_map, List.length_map, List.length_take]
       have := g.le
       exact small1000 (by omega)
     . rw [qbl, List.take_add_one, er, List.map_append, List.map_append]
       rfl
   . rintro σ' H' ⟨v, rfl, rfl⟩
     have e : rs.take (ps.map V.ref).length = rs := List.take_of_length_le (by rw [List.length_map, g.rows.1]; exact Nat.le_refl _)
     rw [e]
     refine ⟨_, rfl, D, rs.map (·.1), rfl, qab, g.good.nd, by rw [List.length_map]; have := g.le; omega, fun H2 s2 => ?_⟩
     have sD : Same H1 H2 := (qaf hD).trans s2
     have hD2 : H2 D = some (.lst ((rs.map (·.1)).map V.str)) := s2 _ _ qab
     have g2 := g1.mono sD
     refine ⟨_, rfl, l, rfl, ⟨_, .of g2.at_⟩, ?_⟩
     refine qbh (K := K) (a := l) (xs := ps.map V.ref) (fun i σ' H' => ∃ v, σ' = [some (.ref l), some (.ref D), v] /\ Same H2 H') ⟨none, rfl, Same.refl H2⟩ (fun i σ' H' _ ⟨_, _, s⟩ => .of (s _ _ g2.at_)) ?_ ?_
     . rintro i x σ' H' hx ⟨v, rfl, s3⟩
       obtain ⟨p', q', r, rfl, er, hr', a, b⟩ := (g2.mono s3).rows.item hx
       refine ⟨_, rfl, p', _, 1, _, rfl, rfl, .of a, rfl, _, rfl, q', D, r.2, rs.map (·.1), rfl, b, s3 _ _ hD2, g.good.rd r hr', g.good.to r hr', Nat.le_trans (g.good.len r hr') (by decide), fun H4 s4 => ⟨_, rfl, s3.trans s4⟩⟩
     . rintro σ' H' ⟨v, rfl, s3⟩
       exact ⟨_, rfl, l, ps, rs, rfl, g2.mono s3, fun H4 s4 => q H4 (((s1.trans sD).trans s3).trans s4)⟩
end
end Rh
set_option Elab.async false
set_option linter.all false
set_option maxRecDepth 100000
set_option maxHeartbeats 4000000
namespace Rh
open PySem L2 PyProof.Rows
abbrev sGInit : Stmt := inClass (top 24) 0
abbrev sGNames : Stmt := inClass (top 24) 1
abbrev sGFrom : Stmt := inClass (top 24) 2
def rdOf (rs : List (Str × List Str)) (r : Str × List Str) : List Str := (rs.map (·.1)).filter fun z => inV (.str z) (r.2.map V.str)
def GrAt (CG : Addr) (H : Hp) (a : Addr) (rs : List (Str × List Str)) : Prop := ∃ (dx lo rd : Addr) (kvs : List (Key × V)), H a = some (.ins CG dx [("order", .ref lo), ("roads", .ref rd)]) /\ H lo = some (.lst ((rs.map (·.1)).map V.str)) /\ H rd = some (.dK kvs) ∧
 ∀ r ∈ rs, ∃ q, valV kvs (Sum.inr r.1) = some (.ref q) /\ H q = some (.lst ((rdOf rs r).map V.str))
theorem GrAt.mono {CG : Addr} {H H' : Hp} {a : Addr} {rs : List (Str × List Str)} (h : GrAt CG H a rs) (s : Same H H') : GrAt CG H' a rs := by
 obtain ⟨dx, lo, rd, kvs, h1, h2, h3, h4⟩ := h
 exact ⟨dx, lo, rd, kvs, s _ _ h1, s _ _ h2, s _ _ h3, fun r hr => let ⟨q, a, b⟩ := h4 r hr; ⟨q, a, s _ _ b⟩⟩
theorem GoodAt.fr {H H' : Hp} {l x C dx : Addr} {fs : List (Str × V)} {ps : List Addr} {rs : List (Str × List Str)} (h : GoodAt H l ps rs) (hx : H x = some (.ins C dx fs)) (s : Fr H x H') : GoodAt H' l ps rs := by
 refine ⟨s _ _ h.at_ (fun e => ?_), ⟨h.rows.1, fun i p r e1 e2 => ?_⟩, h.good, h.pos, h.le⟩
 . have := h.at_
   rw [e, hx] at this
   cases this
 . obtain ⟨q, a, b⟩ := h.rows.2 i p r e1 e2
   exact ⟨q, s _ _ a (fun e => by rw [e, hx] at a; cases a), s _ _ b (fun e => by rw [e, hx] at b; cases b)⟩
structure ClG (K : PySem.W.Frag) (mg : Str -> Option Value) (CG f : Addr) (fd : FuncData) : Prop where
 cl : Cls K CG
 mkr : Mk K CG f
 ns : mg "Ground" = some (.ref CG)
 no : NoAttr K CG "order"
 nr : NoAttr K CG "roads"
 fn : Fun K "__init__" "Ground.__init__" sGInit f fd
 bi : Binds K fd ["self", "rows"] []
theorem nor : ¬ (Str.ofString "order") = Str.ofString "roads" := by decide +kernel
theorem put1 (v : V) : putF (Str.ofString "order") v [] = [(Str.ofString "order", v)] := rfl
theorem put2 (v u : V) : putF (Str.ofString "roads") u [(Str.ofString "order", v)] = [(Str.ofString "order", v), (Str.ofString "roads", u)] := by
 unfold putF
 rw [if_neg nor]
 rfl
theorem lkO (v u : V) : ([(Str.ofString "order", v), (Str.ofString "roads", u)] : List (Str × V)).lookup (Str.ofString "order") = some v := by simp [List.lookup]
theorem lkR (v u : V) : ([(Str.ofString "order", v), (Str.ofString "roads", u)] : List (Str × V)).lookup (Str.ofString "roads") = some u := by
 have e : ((Str.ofString "roads") == (Str.ofString "order")) = false := by decide +kernel
 simp [List.lookup, e]
def spGInit (CG : Addr) : Sp := fun vs H Q _ => ∃ (x dx l : Addr) (ps : List Addr) (rs : List (Str × List Str)), vs = [.ref x, .ref l] /\ GoodAt H l ps rs /\ H x = some (.ins CG dx []) /\ ∀ H', GrAt CG H' x rs -> Fr H x H' -> Q .non H'
def spGNames (CG : Addr) : Sp := fun vs H Q _ => ∃ (a : Addr) (rs : List (Str × List Str)), vs = [.ref a] /\ GrAt CG H a rs /\ ∀ l, H l = none -> Q (.ref l) (upd H l (.lst ((rs.map (·.1)).map V.str)))
def spGFrom (CG : Addr) : Sp := fun vs H Q _ => ∃ (a : Addr) (rs : List (Str × List Str)) (r : Str × List Str), vs = [.ref a, .str r.1] /\ GrAt CG H a rs /\ r ∈ rs /\ isName r.1 = true /\ ∀ H1 l, Same H H1 -> H1 l = none -> Q (.ref l) (upd H1 l (.lst ((rdOf rs r).map V.str)))
section
variable {P : Program} {w : World} {K : PySem.W.Frag} {mg : Str -> Option Value} {base : Heap}
abbrev nGI : List Str := ["self", "rows", "row"]
theorem scGI : FnScope nGI ["self", "rows"] (defScope sGInit) := ⟨rfl, rfl, rfl, by decide +kernel, rfl, by decide +kernel, by decide +kernel⟩
theorem ok_ginit {f fW CG : Addr} {fd fdW : FuncData} (C : ClG K mg CG f fd) (B : Blt mg) (G : KitG mg) (T : KitP K mg) (N : HasN K mg) (hW : Has K mg "need_rows" sNeed ["rows"] fW fdW) : FnOk P w K mg base CX0 6 f fd ["self", "rows"] (spGInit CG) := by
 have GW : FnOk P w K mg base CX0 5 fW fdW ["rows"] spGood := ok_need hW.fn B G T N
 refine C.fn.okJ scGI (fun vs H Q E h => ?_) (fun cdv A outer s H vs Q E hr h => ?_)
 . obtain ⟨x, dx, l, ps, rs, rfl, _⟩ := h
   rfl
 . obtain ⟨x, dx, l, ps, rs, rfl, g, hx, q⟩ := h
   have hu := hu_of hr
   refine ⟨_, qac (qbp (je_f hW GW hr (by rfl) (qaa (jv 1) qad)))
     (qac (js_fld (jv 0) (qcg (N' := ["row"]) (ix := [none]) (te := tOp (rIxT K) (tVar 0) (tC (.int 0))) rfl ⟨rfl, rfl, rfl, rfl, rfl⟩ (qar (jv 1)) (fun C s2 H2 fp pins =>
       ⟨qaj (i := 0) (nd1 _) rfl (Or.inl rfl), qbo, qbs qbu (jv 0) qag (fun _ _ => rfl)⟩)) rfl)
     (qac (js_fld (jv 0) qch rfl)
     (qae (qbf PassesOwn.never rfl (qar (jv 1)) (qaj (i := 2) scGI.nd rfl (Or.inr rfl))
       (qae (qbi hu (je_fld (jv 0) rfl) (qbs qbu (jv 2) qag (fun _ _ => rfl))
         (qcg (N' := ["name", "row"]) (ix := [none, some 2]) (tt := tTest (tOp (rIn K false) (tVar 0) (tOp (rIxT K) (tVar 1) (tC (.int 1))))) rfl ⟨rfl, rfl, rfl, rfl, rfl⟩ (qar (je_fld (jv 0) rfl)) (fun C s2 H2 fp pins =>
           ⟨qaj (i := 0) (show (["name", "row"] : List Str).Nodup by decide +kernel) rfl (Or.inl rfl), qbr (qak qca (jv 0) (qbs qbu (jv 1) qag (fun _ _ => rfl)) (by with_unfolding_all rfl)), jv 0⟩)) rfl)))))), ?_⟩
   refine ⟨_, rfl, l, ps, rs, rfl, g, fun H1 s1 => ?_⟩
   have g1 := g.mono s1
   have fr1 : Fr H x H1 := fun b u h _ => s1 _ _ h
   have hx1 := s1 _ _ hx
   refine ⟨_, rfl, l, rfl, ⟨_, .of g1.at_⟩, fun lo hlo => ?_⟩
   have nlx : lo ≠ x := fun e => by rw [e, hx1] at hlo; cases hlo
   refine qbk (K := K) (a := l) (xs := ps.map V.ref) (fun i σ' H' => ∃ v, σ' = [v] /\ H' = upd H1 lo (.lst (((rs.take i).map (·.1)).map V.str))) ⟨none, rfl, rfl⟩ (fun i σ' H' _ ⟨_, _, e⟩ => e ▸ .of (qai g1.at_ hlo)) ?_ ?_
   . rintro i y σ' H' hy ⟨v, rfl, rfl⟩
     obtain ⟨p', q', r, rfl, er, hr', a, b⟩ := g1.rows.item hy
     have hi := (List.getElem?_eq_some_iff.mp er).1
     refine ⟨_, rfl, p', _, 0, _, rfl, rfl, .of (qai a hlo), rfl, _, qab, ?_, _, rfl, ?_⟩
     . rw [List.length_map, List.length_map, List.length_take]
       have := g.le
       exact small1000 (by omega)
     . rw [qbl, List.take_add_one, er, List.map_append, List.map_append]
       rfl
   rintro σ' H' ⟨v, rfl, rfl⟩
   have e : rs.take (ps.map V.ref).length = rs := List.take_of_length_le (by rw [List.length_map, g.rows.1]; exact Nat.le_refl _)
   rw [e]
   have fr2 : Fr H x (upd H1 lo (.lst ((rs.map (·.1)).map V.str))) := fr1.new hlo
   have hlo2 : upd H1 lo (.lst ((rs.map (·.1)).map V.str)) lo = some (.lst ((rs.map (·.1)).map V.str)) := qab
   have hx2 : upd H1 lo (.lst ((rs.map (·.1)).map V.str)) x = some (.ins CG dx []) := qai hx1 hlo
   generalize upd H1 lo (.lst ((rs.map (·.1)).map V.str)) = H2 at fr2 hlo2 hx2
   refine ⟨_, rfl, x, CG, dx, [], rfl, hx2, C.cl, C.no, by decide, ?_⟩
   rw [put1]
   intro rd hrd
   have nrx : rd ≠ x := fun e => by rw [e, qab] at hrd; cases hrd
   have hrd2 : H2 rd = none := by rw [qah nrx] at hrd; exact hrd
   have nrl : rd ≠ lo := fun e => by rw [e, hlo2] at hrd2; cases hrd2
   have hHr : H rd = none := fr2.fresh hx2 hrd2
   refine ⟨_, rfl, x, CG, dx, _, rfl, qai qab hrd, C.cl, C.nr, by show 1 < 1000; decide, ?_⟩
   rw [put2]
   have fr5 : Fr H x (upd (upd (upd H2 x (.ins CG dx [("order", .ref lo)])) rd (.dK [])) x (.ins CG dx [("order", .ref lo), ("roads", .ref rd)])) := ((fr2.at_d).own hHr).at_d
   have g5 := g.fr hx fr5
   refine ⟨_, rfl, l, rfl, ⟨_, .of g5.at_⟩, ?_⟩
   refine qbh (K := K) (a := l) (xs := ps.map V.ref) (fun i σ' H' => ∃ v kvs, σ' = [some (.ref x), some (.ref l), v] /\ H' x = some (.ins CG dx [("order", .ref lo), ("roads", .ref rd)]) /\ H' lo = some (.lst ((rs.map (·.1)).map V.str)) /\ H' rd = some (.dK kvs) ∧
     kvs.map (·.1) = ((rs.map (·.1)).take i).map Sum.inr /\ (∀ r ∈ rs.take i, ∃ q, valV kvs (Sum.inr r.1) = some (.ref q) /\ H' q = some (.lst ((rdOf rs r).map V.str))) /\ Fr H x H')
     ⟨none, [], rfl, qab, ?_, ?_, rfl, fun r h => (nomatch h), fr5⟩ (fun i σ' H' _ ⟨_, _, _, _, _, _, _, _, fr⟩ => .of (g.fr hx fr).at_) ?_ ?_
   . rw [qah nlx, qah (Ne.symm nrl), qah nlx]
     exact hlo2
   . rw [qah nrx]
     exact qab
   . rintro i y σ' H' hy ⟨v, kvs, rfl, hx', hlo', hrd', ek, hv, fr⟩
     have g' := g.fr hx fr
     obtain ⟨p, qq, r, rfl, er, hr', a, b⟩ := g'.rows.item hy
     have hi := (List.getElem?_eq_some_iff.mp er).1
     have hle := g.le
     refine ⟨_, rfl, x, CG, dx, _, _, rfl, hx', C.cl, C.no, lkO _ _, lo, rfl, ⟨_, .of hlo'⟩, fun D hD => ?_⟩
     refine qbk (K := K) (a := lo) (xs := (rs.map (·.1)).map V.str) (fun j σ'' H'' => ∃ v0, σ'' = [v0, some (.ref p)] /\ H'' = upd H' D (.lst ((((rs.map (·.1)).take j).filter fun z => inV (.str z) (r.2.map V.str)).map V.str))) ⟨none, rfl, rfl⟩
       (fun j σ'' H'' _ ⟨_, _, e⟩ => e ▸ .of (qai hlo' hD)) ?_ ?_
     . rintro j y σ'' H'' hy ⟨v0, rfl, rfl⟩
       rw [List.getElem?_map] at hy
       cases e : (rs.map (·.1))[j]? with
       | none => rw [e] at hy; cases hy
       | some z =>
         rw [e] at hy
         obtain rfl := (Option.some.inj hy).symm
         refine ⟨_, rfl, _, rfl, p, _, 1, _, rfl, rfl, .of (qai a hD), rfl, qq, _, rfl, .inr (.of (qai b hD)), rfl, qct _, _, rfl, ?_⟩
         have et : ((rs.map (·.1)).take (j + 1)).filter (fun z => inV (.str z) (r.2.map V.str)) = ((rs.map (·.1)).take j).filter (fun z => inV (.str z) (r.2.map V.str)) ++ if inV (.str z) (r.2.map V.str) = true then [z] else [] := by
           rw [List.take_add_one, e, List.filter_append]
           congr 1
           cases ei : inV (.str z) (r.2.map V.str)
           . simp [ei]
           . simp [ei]
         rw [et]
         show if inV (.str z) (r.2.map V.str) = true then _ else _
         cases ei : inV (.str z) (r.2.map V.str) with
         | true =>
           refine iteT ⟨_, rfl, _, qab, ?_, _, rfl, ?_⟩
           . rw [List.length_map]
             refine small1000 (Nat.le_trans (List.length_filter_le _ _) ?_)
             rw [List.length_take, List.length_map]
             omega
           . rw [qbl, if_pos rfl, List.map_append]
             rfl
         | false =>
           refine iteF ⟨_, rfl, ?_⟩
           rw [if_neg Bool.false_ne_true, List.append_nil]
     . rintro σ'' H'' ⟨v0, rfl, rfl⟩
       have ed : ((rs.map (·.1)).take ((rs.map (·.1)).map V.str).length).filter (fun z => inV (.str z) (r.2.map V.str)) = rdOf rs r := by
         rw [List.length_map, List.take_of_length_le (Nat.le_refl _)]
         rfl
       rw [ed]
       have nD : ∀ {c : Addr} {o : HO}, H' c = some o -> c ≠ D := fun h e => by rw [e, hD] at h; cases h
       have en : (rs.map (·.1))[i]? = some r.1 := by rw [List.getElem?_map, er]; rfl
       have ez : valV kvs (Sum.inr r.1 : Key) = none := valV_out (by rw [ek]; exact not_taken g.good.nd en)
       have lk : kvs.length < sizeLine := by
         have := congrArg List.length ek
         rw [List.length_map, List.length_map, List.length_take, List.length_map] at this
         exact small1000 (by omega)
       refine ⟨_, rfl, x, CG, dx, _, _, rfl, qai hx' hD, C.cl, C.nr, lkR _ _, _, rfl, p, _, 0, _, rfl, rfl, .of (qai a hD), rfl, rd, _, rfl, DPut.k (k := (Sum.inr r.1 : Key)) (qai hrd' hD) lk, ?_⟩
       refine ⟨_, putK kvs (Sum.inr r.1) (.ref D), rfl, ?_, ?_, qab, ?_, fun r' hr2 => ?_, ?_⟩
       . rw [qah (Ne.symm nrx)]; exact qai hx' hD
       . rw [qah (Ne.symm nrl)]; exact qai hlo' hD
       . rw [put_new _ ez, ek, List.take_add_one, en, List.map_append]
         rfl
       . rw [List.take_add_one, er] at hr2
         rcases List.mem_append.mp hr2 with h | h
         . obtain ⟨q1, a1, b1⟩ := hv r' h
           refine ⟨q1, ?_, ?_⟩
           . rw [qbx, if_neg]
             . exact a1
             . intro z
               rw [z, ez] at a1
               cases a1
           . have n1 : q1 ≠ rd := fun e => by rw [e, hrd'] at b1; cases b1
             rw [qah n1]
             exact qai b1 hD
         . have er' : r' = r := by simpa using h
           subst er'
           refine ⟨D, ?_, ?_⟩
           . rw [qbx, if_pos rfl]
           . rw [qah (Ne.symm (nD hrd'))]
             exact qab
       . exact (fr.new hD).own hHr
   . rintro σ' H' ⟨v, kvs, rfl, hx', hlo', hrd', ek, hv, fr⟩
     have e : rs.take (ps.map V.ref).length = rs := List.take_of_length_le (by rw [List.length_map, g.rows.1]; exact Nat.le_refl _)
     rw [e] at hv
     exact q H' ⟨dx, lo, rd, kvs, hx', hlo', hrd', hv⟩ fr
theorem scGN : FnScope ["self"] ["self"] (defScope sGNames) := ⟨rfl, rfl, rfl, by decide +kernel, rfl, by decide +kernel, by decide +kernel⟩
theorem ok_gnames {f fI CG : Addr} {fd fdI : FuncData} (F : Fun K "names" "Ground.names" sGNames f fd) (C : ClG K mg CG fI fdI) (G : KitG mg) : FnOk P w K mg base CX0 1 f fd ["self"] (spGNames CG) := by
 refine F.okJ scGN (fun vs H Q E h => ?_) (fun cdv A outer s H vs Q E hr h => ?_)
 . obtain ⟨a, rs, rfl, _⟩ := h
   rfl
 . obtain ⟨a, rs, rfl, ⟨dx, lo, rd, kvs, h1, h2, h3, h4⟩, q⟩ := h
   refine ⟨_, qae (qal (qbn qcd (by rfl) G.lst boot_list (qaa (je_fld (jv 0) rfl) qad))), ?_⟩
   exact ⟨_, rfl, a, CG, dx, _, _, rfl, h1, C.cl, C.no, lkO _ _, lo, _, rfl, .inl (.of h2), q⟩
abbrev nGF : List Str := ["self", "name"]
theorem scGF : FnScope nGF nGF (defScope sGFrom) := ⟨rfl, rfl, rfl, by decide +kernel, rfl, by decide +kernel, by decide +kernel⟩
theorem ok_gfrom {f fI fN CG : Addr} {fd fdI fdN : FuncData} (F : Fun K "roads_from" "Ground.roads_from" sGFrom f fd) (C : ClG K mg CG fI fdI) (B : Blt mg) (G : KitG mg) (T : KitP K mg) (hN : Has K mg "is_name" sName ["thing"] fN fdN) : FnOk P w K mg base CX0 2 f fd nGF (spGFrom CG) := by
 have GN : FnOk P w K mg base CX0 1 fN fdN ["thing"] spNm := ok_name hN.fn B T
 refine F.okJ scGF (fun vs H Q E h => ?_) (fun cdv A outer s H vs Q E hr h => ?_)
 . obtain ⟨a, rs, r, rfl, _⟩ := h
   rfl
 . obtain ⟨a, rs, r, rfl, gr, hr', hn, q⟩ := h
   have hu := hu_of hr
   refine ⟨_, qac (qba (jw_or (jt_not (qbv (je_f hN GN hr (by rfl) (qaa (jv 1) qad)))) (jw_or1 (qcs (jc_dnotin hu (jv 1) (je_fld (jv 0) rfl))))).pt qbb qap)
     (qae (qal (qbn qcd (by rfl) G.lst boot_list (qaa (qbd hu (je_fld (jv 0) rfl) (jv 1) (fun _ _ => rfl)) qad)))), ?_⟩
   refine ⟨_, rfl, r.1, rfl, hn, fun H1 s1 => ⟨_, rfl, iteF ?_⟩⟩
   obtain ⟨dx, lo, rd, kvs, h1, h2, h3, h4⟩ := gr.mono s1
   obtain ⟨qq, hv, hq⟩ := h4 r hr'
   have gz : DGet H1 rd (.str r.1) (some (.ref qq)) := by
     have := DGet.k (k := (Sum.inr r.1 : Key)) h3
     rw [hv] at this
     exact this
   refine ⟨_, rfl, _, rfl, a, CG, dx, _, _, rfl, h1, C.cl, C.nr, lkR _ _, rd, _, rfl, gz, _, rfl, iteF ?_⟩
   exact ⟨_, rfl, a, CG, dx, _, _, rfl, h1, C.cl, C.nr, lkR _ _, _, rfl, rd, _, rfl, gz, qq, _, rfl, .inl (.of hq), fun l hl => q H1 l s1 hl⟩
end
end Rh
set_option Elab.async false
set_option linter.all false
set_option maxRecDepth 100000
set_option maxHeartbeats 4000000
namespace Rh
open PySem L2 PyProof.Rows
abbrev sLacking : Stmt := top 32
abbrev sSetOf : Stmt := top 33
abbrev Rws := List (Str × List Str)
def gOf (rs : Rws) (z : Str) : List Str := match rs.find? (fun r => decide (r.1 = z)) with
 | some r => rdOf rs r
 | none => []
theorem find_row : ∀ {rs : Rws} {r : Str × List Str}, (rs.map (·.1)).Nodup -> r ∈ rs -> rs.find? (fun q => decide (q.1 = r.1)) = some r
 | a :: rs, r, hn, h => by
   rw [List.map_cons, List.nodup_cons] at hn
   rcases List.mem_cons.mp h with rfl | h
   . simp [List.find?_cons]
   . have : ¬ a.1 = r.1 := fun e => hn.1 (e ▸ List.mem_map.mpr ⟨r, h, rfl⟩)
     simp only [List.find?_cons, decide_eq_false this]
     exact find_row hn.2 h
theorem gOf_row {rs : Rws} {r : Str × List Str} (hn : (rs.map (·.1)).Nodup) (h : r ∈ rs) : gOf rs r.1 = rdOf rs r := by
 unfold gOf
 rw [find_row hn h]
theorem rdOf_row {rs : Rws} {r : Str × List Str} {y : Str} (h : y ∈ rdOf rs r) : ∃ r' ∈ rs, r'.1 = y := by
 obtain ⟨r', h1, h2⟩ := List.mem_map.mp (List.mem_filter.mp h).1
 exact ⟨r', h1, h2⟩
theorem inV_iff {z : Str} {zs : List Str} : inV (.str z) (zs.map V.str) = true ↔ z ∈ zs := by
 refine ⟨fun h => ?_, inV_str⟩
 unfold inV at h
 obtain ⟨y, hy, e⟩ := List.any_eq_true.mp h
 obtain ⟨x, hx, rfl⟩ := List.mem_map.mp hy
 have e' : (x == z) = true := e
 rw [beq_iff_eq] at e'
 exact e' ▸ hx
theorem rdOf_iff {rs : Rws} (g : GoodRows rs) {r : Str × List Str} (h : r ∈ rs) {y : Str} : y ∈ rdOf rs r ↔ y ∈ r.2 := by
 unfold rdOf
 rw [List.mem_filter, inV_iff]
 exact ⟨fun z => z.2, fun z => ⟨g.to r h y z, z⟩⟩
theorem gOf_cl {rs : Rws} (hn : (rs.map (·.1)).Nodup) : ∀ z ∈ rs.map (·.1), ∀ y ∈ gOf rs z, y ∈ rs.map (·.1) := fun z hz y hy => by
 obtain ⟨r, hr, rfl⟩ := List.mem_map.mp hz
 rw [gOf_row hn hr] at hy
 obtain ⟨r', h1, rfl⟩ := rdOf_row hy
 exact List.mem_map.mpr ⟨r', h1, rfl⟩
theorem len_sub {α : Type} : ∀ {l m : List α}, l.Nodup -> (∀ z ∈ l, z ∈ m) -> l.length <= m.length
 | [], m, _, _ => Nat.zero_le _
 | a :: l, m, hn, h => by
   classical
   rw [List.nodup_cons] at hn
   have ha := h a List.mem_cons_self
   have := len_sub (m := m.erase a) hn.2 fun z hz => (List.mem_erase_of_ne (fun (e : z = a) => hn.1 (e ▸ hz))).mpr (h z (List.mem_cons_of_mem _ hz))
   rw [List.length_erase_of_mem ha] at this
   have := List.length_pos_of_mem ha
   rw [List.length_cons]
   omega
theorem merge_new : ∀ {more kvs : List (Key × V)}, (more.map (·.1)).Nodup -> (∀ k ∈ more.map (·.1), ¬ k ∈ kvs.map (·.1)) -> mergeK kvs more = kvs ++ more
 | [], kvs, _, _ => (List.append_nil _).symm
 | p :: more, kvs, hn, h => by
   rw [List.map_cons, List.nodup_cons] at hn
   have e : valV kvs p.1 = none := valV_out (h p.1 (by simp))
   show mergeK (putK kvs p.1 p.2) more = _
   rw [putK_new p.2 e, merge_new hn.2]
   . rw [List.append_assoc]
     rfl
   . intro k hk m
     rw [List.map_append] at m
     rcases List.mem_append.mp m with m | m
     . exact h k (by rw [List.map_cons]; exact List.mem_cons_of_mem _ hk) m
     . have : k = p.1 := by simpa using m
       subst this
       exact hn.1 hk
structure Mth (K : PySem.W.Frag) (C : Addr) (m qual : Str) (st : Stmt) (ps : List Str) (f : Addr) (fd : FuncData) : Prop where
 fn : Fun K m qual st f fd
 me : Meth K C m f
 bi : Binds K fd ps []
theorem je_m0 {X : Cx} {C f : Addr} {fd : FuncData} {m qual : Str} {st : Stmt} {ps : List Str} {k : Nat} {sp : Sp} {o : Expr} {ta : TE} {apos pos : Pos} {pl : Sem Bool} (h : Mth X.K C m qual st ps f fd) (c : Cls X.K C) (G : FnOk X.prog X.w X.K X.mg X.base CX0 k f fd ps sp) (hr : Room k X.A) (he : JE X o ta)
   (ht : eval (.Call (.Attribute o m apos) [] [] pos) X.env = (do
     let ov ← eval o X.env
     standAt apos.atName
     let (f, first) ← holding [ov] (getMethod ov m pl)
     callWith pos f first (backTo pos (starEach [] X.env)) (backToKw pos (keywordEach [] X.env))) := by rfl) :
   JE X (.Call (.Attribute o m apos) [] [] pos) (tMeth C m sp [] E0 ta tNil) := je_meth0 he c h.me G hr h.bi .nil pass0 ht
theorem je_m1 {X : Cx} {C f : Addr} {fd : FuncData} {m qual : Str} {st : Stmt} {ps : List Str} {k : Nat} {sp : Sp} {o e : Expr} {es : List Expr} {ta : TE} {t : TA} {apos pos : Pos} {pl : Sem Bool} (h : Mth X.K C m qual st ps f fd) (c : Cls X.K C) (G : FnOk X.prog X.w X.K X.mg X.base CX0 k f fd ps sp) (hr : Room k X.A) (he : JE X o ta) (ha : JA X (e :: es) t)
   (hst : starEach (e :: es) X.env = (false, eval e X.env) :: starEach es X.env := by rfl) (hpl : (backTo pos (starEach es X.env)).any (·.1) = false := by rfl)
   (ht : eval (.Call (.Attribute o m apos) (e :: es) [] pos) X.env = (do
     let ov ← eval o X.env
     standAt apos.atName
     let (f, first) ← holding [ov] (getMethod ov m pl)
     callWith pos f first (backTo pos (starEach (e :: es) X.env)) (backToKw pos (keywordEach [] X.env))) := by rfl) :
   JE X (.Call (.Attribute o m apos) (e :: es) [] pos) (tMeth C m sp [] E0 ta t) := je_meth he c h.me G hr h.bi .nil pass0 ha hst hpl ht
structure GM (K : PySem.W.Frag) (mg : Str -> Option Value) (CG : Addr) : Prop where
 cls : ∃ f fd, ClG K mg CG f fd
 nm : ∃ f fd, Mth K CG "names" "Ground.names" sGNames ["self"] f fd
 fr : ∃ f fd, Mth K CG "roads_from" "Ground.roads_from" sGFrom ["self", "name"] f fd
 isn : ∃ f fd, Has K mg "is_name" sName ["thing"] f fd
theorem GrAt.ins {CG : Addr} {H : Hp} {a : Addr} {rs : Rws} (h : GrAt CG H a rs) : ∃ dx fs, H a = some (.ins CG dx fs) /\ fs.lookup (Str.ofString "names") = none /\ fs.lookup (Str.ofString "roads_from") = none := by
 obtain ⟨dx, lo, rd, kvs, h1, _⟩ := h
 refine ⟨dx, _, h1, ?_, ?_⟩
 . have e1 : ((Str.ofString "names") == (Str.ofString "order")) = false := by decide +kernel
   have e2 : ((Str.ofString "names") == (Str.ofString "roads")) = false := by decide +kernel
   simp only [List.lookup]
   rw [e1, e2]
 . have e1 : ((Str.ofString "roads_from") == (Str.ofString "order")) = false := by decide +kernel
   have e2 : ((Str.ofString "roads_from") == (Str.ofString "roads")) = false := by decide +kernel
   simp only [List.lookup]
   rw [e1, e2]
theorem names_at {rs : Rws} {i : Nat} {y : V} (h : ((rs.map (·.1)).map V.str)[i]? = some y) : ∃ r, rs[i]? = some r /\ r ∈ rs /\ y = .str r.1 := by
 rw [List.getElem?_map, List.getElem?_map] at h
 cases e : rs[i]? with
 | none => rw [e] at h; cases h
 | some r => rw [e] at h; exact ⟨r, rfl, List.mem_of_getElem? e, (Option.some.inj h).symm⟩
theorem strs_at {zs : List Str} {i : Nat} {y : V} (h : (zs.map V.str)[i]? = some y) : ∃ z, zs[i]? = some z /\ z ∈ zs /\ y = .str z := by
 rw [List.getElem?_map] at h
 cases e : zs[i]? with
 | none => rw [e] at h; cases h
 | some z => rw [e] at h; exact ⟨z, rfl, List.mem_of_getElem? e, (Option.some.inj h).symm⟩
theorem rd_len {rs : Rws} (r : Str × List Str) : (rdOf rs r).length <= rs.length := by
 have := List.length_filter_le (fun z => inV (.str z) (r.2.map V.str)) (rs.map (·.1))
 rwa [List.length_map] at this
theorem qcx {c : Bool} {A B : Prop} (hc : c = false) (h : B) : if c = true then A else B := by
 rw [hc]
 exact iteF h
theorem iteT_of {c : Bool} {A B : Prop} (hc : c = true) (h : A) : if c = true then A else B := by
 rw [if_pos hc]
 exact h
theorem valV_at {kvs : List (Key × V)} : ∀ {i : Nat} {k : Key} {v : V}, (kvs.map (·.1)).Nodup -> kvs[i]? = some (k, v) -> valV kvs k = some v := by
 induction kvs with
 | nil => intro i k v _ e; simp at e
 | cons p r ih =>
   intro i k v hn e
   rw [List.map_cons, List.nodup_cons] at hn
   cases i with
   | zero =>
     rw [List.getElem?_cons_zero] at e
     obtain rfl := Option.some.inj e
     exact qay rfl
   | succ i =>
     rw [List.getElem?_cons_succ] at e
     have : ¬ p.1 = k := fun z => hn.1 (z ▸ List.mem_map.mpr ⟨_, List.mem_of_getElem? e, rfl⟩)
     rw [qaz this]
     exact ih hn.2 e
theorem rows_qs {H : Hp} : ∀ (ps : List Addr) (rs : Rws), RowsAt H ps rs -> ∃ qs : List Addr, qs.length = rs.length /\ ∀ (i : Nat) (p q : Addr) (r : Str × List Str), ps[i]? = some p -> rs[i]? = some r -> qs[i]? = some q -> H p = some (.tup [.str r.1, .ref q]) /\ H q = some (.tup (r.2.map V.str))
 | [], [], _ => ⟨[], rfl, fun i p q r e => by simp at e⟩
 | [], _ :: _, h => by cases h.1
 | _ :: _, [], h => by cases h.1
 | p :: ps, r :: rs, h => by
   obtain ⟨qs, l, k⟩ := rows_qs ps rs ⟨Nat.succ.inj h.1, fun i a b e1 e2 => h.2 (i + 1) a b (by simpa using e1) (by simpa using e2)⟩
   obtain ⟨q, a, b⟩ := h.2 0 p r rfl rfl
   refine ⟨q :: qs, by simp [l], fun i p' q' r' e1 e2 e3 => ?_⟩
   cases i with
   | zero => cases e1; cases e2; cases e3; exact ⟨a, b⟩
   | succ i => exact k i p' q' r' (by simpa using e1) (by simpa using e2) (by simpa using e3)
def kvOf (rs : Rws) (qs : List Addr) : List (Key × V) := List.zipWith (fun r q => ((Sum.inr r.1 : Key), V.ref q)) rs qs
theorem kvOf_keys : ∀ {rs : Rws} {qs : List Addr}, qs.length = rs.length -> (kvOf rs qs).map (·.1) = (rs.map (·.1)).map Sum.inr
 | [], [], _ => rfl
 | [], _ :: _, h => by cases h
 | _ :: _, [], h => by cases h
 | r :: rs, q :: qs, h => by
   show Sum.inr r.1 :: (kvOf rs qs).map (·.1) = _
   rw [kvOf_keys (Nat.succ.inj h)]
   rfl
theorem kvOf_len {rs : Rws} {qs : List Addr} (h : qs.length = rs.length) : (kvOf rs qs).length = rs.length := by
 have := congrArg List.length (kvOf_keys h)
 simpa using this
theorem kvOf_at {rs : Rws} {qs : List Addr} (h : qs.length = rs.length) {i : Nat} {r : Str × List Str} (e : rs[i]? = some r) : ∃ q, qs[i]? = some q /\ (kvOf rs qs)[i]? = some (Sum.inr r.1, .ref q) := by
 have hi : i < qs.length := by rw [h]; exact (List.getElem?_eq_some_iff.mp e).1
 refine ⟨qs[i], List.getElem?_eq_getElem hi, ?_⟩
 unfold kvOf
 rw [List.getElem?_zipWith, e, List.getElem?_eq_getElem hi]
theorem kvOf_inv {rs : Rws} {qs : List Addr} (h : qs.length = rs.length) {i : Nat} {kv : Key × V} (e : (kvOf rs qs)[i]? = some kv) : ∃ r q, rs[i]? = some r /\ qs[i]? = some q /\ kv = (Sum.inr r.1, .ref q) := by
 have hi : i < rs.length := by rw [← kvOf_len h]; exact (List.getElem?_eq_some_iff.mp e).1
 obtain ⟨q, e1, e2⟩ := kvOf_at h (List.getElem?_eq_getElem hi)
 rw [e2] at e
 exact ⟨_, q, List.getElem?_eq_getElem hi, e1, (Option.some.inj e).symm⟩
theorem gOf_iff {rs : Rws} (g : GoodRows rs) {r : Str × List Str} (h : r ∈ rs) {y : Str} : y ∈ gOf rs r.1 ↔ y ∈ r.2 := by
 rw [gOf_row g.nd h]
 exact rdOf_iff g h
theorem le_sum : ∀ {l : List Nat} {x : Nat}, x ∈ l -> x <= l.sum
 | a :: l, x, h => by
   rw [List.sum_cons]
   rcases List.mem_cons.mp h with e | h
   . omega
   . have := le_sum h
     omega
theorem GoodRows.two {rs : Rws} (g : GoodRows rs) {r : Str × List Str} (h : r ∈ rs) : r.2.length <= 40 := by
 refine Nat.le_trans ?_ g.few
 exact le_sum (List.mem_map.mpr ⟨r, h, rfl⟩)
theorem nil_in {σ : L2.St} {H : Hp} {Q : List V -> Hp -> Prop} (h : Q [] H) : tNil σ H Q := h
theorem qbm {H H' : Hp} {a : Addr} (s : Same H H') (h : H' a = none) : H a = none := by
 cases z : H a with
 | none => rfl
 | some u => rw [s _ _ z] at h; cases h
theorem name_codes {z : Str} (h : isName z = true) : (∀ c ∈ z.cps.toList, c <= 122) /\ z.length <= 8 /\ 1 <= z.length := by
 unfold isName at h
 simp only [Bool.and_eq_true, decide_eq_true_eq] at h
 refine ⟨fun c hc => ?_, h.1.2, h.1.1⟩
 have := List.all_eq_true.mp h.2 c hc
 unfold letter at this
 simp only [Bool.and_eq_true, decide_eq_true_eq] at this
 exact this.2
theorem name_ok {z : Str} (h : isName z = true) : PyData.strOk z = true := by
 unfold PyData.strOk
 rw [Array.all_eq_true_iff_forall_mem]
 intro c hc
 have := (name_codes h).1 c (by simpa using hc)
 exact decide_eq_true (by omega)
def dL (zs : List Str) : PyData := .list (zs.map PyData.str)
theorem DVs_strs {K : PySem.W.Frag} {H : Hp} : ∀ zs : List Str, DVs K H (zs.map V.str) (zs.map PyData.str)
 | [] => .nil
 | z :: zs => .cons (.str z) (DVs_strs zs)
theorem DV_L {K : PySem.W.Frag} {H : Hp} {p : Addr} {zs : List Str} (h : H p = some (.lst (zs.map V.str))) : DV K H (.ref p) (dL zs) := .lst (.of h) (DVs_strs zs)
theorem canS : ∀ {zs : List Str}, (∀ z ∈ zs, isName z = true) -> PyData.canLayAll0 (zs.map PyData.str) = true
 | [], _ => rfl
 | z :: zs, h => by
   rw [List.map_cons, PyData.canLayAll0, canS fun y hy => h y (List.mem_cons_of_mem _ hy), Bool.and_true]
   exact name_ok (h z List.mem_cons_self)
theorem depS : ∀ zs : List Str, PyData.depthAll (zs.map PyData.str) = 0
 | [] => rfl
 | z :: zs => by
   rw [List.map_cons]
   simp only [PyData.depthAll, PyData.depth, depS zs]
   rfl
theorem shL {zs : List Str} (h : ∀ z ∈ zs, isName z = true) : PySem.SeqAt.shaped (dL zs) = true := by
 unfold PySem.SeqAt.shaped
 rw [Bool.and_eq_true]
 refine ⟨canS h, decide_eq_true ?_⟩
 unfold dL
 simp only [PyData.depth, depS zs]
 decide
theorem dict_all {K : PySem.W.Frag} {H : Hp} {l : Addr} {ps : List Addr} {rs : Rws} (g : GoodAt H l ps rs) {Q : VK}
   (q : ∀ dd kvs, H dd = none -> kvs.map (·.1) = (rs.map (·.1)).map Sum.inr -> (∀ r ∈ rs, ∃ t, valV kvs (Sum.inr r.1 : Key) = some (.ref t) /\ H t = some (.tup (r.2.map V.str))) -> Q (.ref dd) (upd H dd (.dK kvs))) : rDictP K [.ref l] H Q := by
 obtain ⟨qs, lq, hqs⟩ := rows_qs ps rs g.rows
 have le := g.le
 refine ⟨l, ps, kvOf rs qs, rfl, .of g.at_, by rw [kvOf_len lq, g.rows.1], fun i a kv e1 e2 => ?_, by rw [kvOf_len lq]; omega, fun dd hdd => ?_⟩
 . obtain ⟨r', q', f1, f2, rfl⟩ := kvOf_inv lq e2
   exact .of (hqs i a q' r' e1 f1 f2).1
 have nk : ((kvOf rs qs).map (·.1)).Nodup := by
   rw [kvOf_keys lq]
   exact nodup_map g.good.nd fun a _ b _ e => Sum.inr.inj e
 rw [merge_new nk (fun k _ m => by simp at m), List.nil_append]
 refine q dd _ hdd (kvOf_keys lq) fun r hr => ?_
 obtain ⟨i0, hi0⟩ := List.getElem?_of_mem hr
 obtain ⟨q0, eq0, ekv⟩ := kvOf_at lq hi0
 have hi0' := (List.getElem?_eq_some_iff.mp hi0).1
 exact ⟨q0, valV_at nk ekv, (hqs i0 _ q0 r (List.getElem?_eq_getElem (by rw [g.rows.1]; exact hi0')) hi0 eq0).2⟩
section
variable {P : Program} {w : World} {K : PySem.W.Frag} {mg : Str -> Option Value} {base : Heap}
theorem bn_bn (x : Int) : Builtin.bitNot (Builtin.bitNot x) = x := by unfold Builtin.bitNot; omega
theorem bo (a b : Nat) : Builtin.bitOr a b = ((a ||| b : Nat) : Int) := by
 have na : ¬ (0 : Int) <= Builtin.bitNot a := by unfold Builtin.bitNot; omega
 have nb : ¬ (0 : Int) <= Builtin.bitNot b := by unfold Builtin.bitNot; omega
 have e : Builtin.bitAnd (Builtin.bitNot a) (Builtin.bitNot b) = Builtin.bitNot (((Builtin.bitNot (Builtin.bitNot a)).toNat ||| (Builtin.bitNot (Builtin.bitNot b)).toNat : Nat) : Int) := by
   unfold Builtin.bitAnd
   rw [decide_eq_false na, decide_eq_false nb]
 unfold Builtin.bitOr
 rw [e, bn_bn, bn_bn, bn_bn, Int.toNat_natCast, Int.toNat_natCast]
theorem ba (a b : Nat) : Builtin.bitAnd a b = ((a &&& b : Nat) : Int) := by
 unfold Builtin.bitAnd
 rw [decide_eq_true (Int.natCast_nonneg a), decide_eq_true (Int.natCast_nonneg b)]
 rfl
def iNs (ns : List Nat) : List V := ns.map fun n => V.int (n : Nat)
theorem iNs_len (ns : List Nat) : (iNs ns).length = ns.length := List.length_map ..
theorem iNs_get {ns : List Nat} {i : Nat} {x : V} (h : (iNs ns)[i]? = some x) : ∃ n : Nat, ns[i]? = some n /\ x = .int n := by
 unfold iNs at h
 rw [List.getElem?_map] at h
 cases e : ns[i]? with
 | none => rw [e] at h; cases h
 | some n => rw [e] at h; exact ⟨n, rfl, (Option.some.inj h).symm⟩
theorem take_snoc {ns : List Nat} {i n : Nat} (h : ns[i]? = some n) : ns.take (i + 1) = ns.take i ++ [n] := by
 rw [List.take_add_one, h]
 rfl
theorem iNs_snoc (ns : List Nat) (n : Nat) : iNs ns ++ [V.int (n : Nat)] = iNs (ns ++ [n]) := by unfold iNs; rw [List.map_append]; rfl
theorem iNs_flat (ns : List Nat) : (iNs ns).all flatV = true := by
 unfold iNs
 rw [List.all_map]
 exact List.all_eq_true.mpr fun _ _ => rfl
theorem iNs_in (ns : List Nat) (n : Nat) : inV (.int (n : Nat)) (iNs ns) = decide (n ∈ ns) := by
 unfold inV iNs
 rw [List.any_map, Bool.eq_iff_iff, List.any_eq_true, decide_eq_true_iff]
 constructor
 . rintro ⟨y, hy, e⟩
   have e' : ((y : Int) == (n : Int)) = true := e
   have : y = n := by
     have := eq_of_beq e'
     omega
   exact this ▸ hy
 . intro h
   refine ⟨n, h, ?_⟩
   show ((n : Int) == (n : Int)) = true
   simp
def spLacking (K : PySem.W.Frag) : Sp := fun vs H Q _ => ∃ (a : Addr) (ns : List Nat), vs = [.ref a] /\ SqL K H a (iNs ns) /\ ns.length <= 1000 /\ ∀ H', Same H H' -> Q (.int (Rb.lackN ns : Nat)) H'
def spSetOf (K : PySem.W.Frag) : Sp := fun vs H Q _ => ∃ (a : Addr) (ns : List Nat), vs = [.ref a] /\ SqL K H a (iNs ns) /\ (∀ x ∈ ns, x < 1000) /\ Q (.int (Rb.setN ns : Nat)) H
theorem scSetOf : FnScope ["numbers", "bits", "number"] ["numbers"] (defScope sSetOf) := ⟨rfl, rfl, rfl, by decide +kernel, rfl, by decide +kernel, by decide +kernel⟩
theorem ok_setof {f : Addr} {fd : FuncData} (F : Fun K "set_of" "set_of" sSetOf f fd) : FnOk P w K mg base CX0 1 f fd ["numbers"] (spSetOf K) := by
 refine F.okJ scSetOf (fun vs H Q E h => ?_) (fun cdv A outer s H vs Q E hr h => ?_)
 . obtain ⟨a, ns, rfl, _⟩ := h
   rfl
 . obtain ⟨a, ns, rfl, hS, hb, q⟩ := h
   refine ⟨_, qac (qao (i := 1) scSetOf.nd rfl (Or.inl rfl) qag)
     (qac (qbf PassesOwn.never rfl (qar (jv 0)) (qaj (i := 2) scSetOf.nd rfl (Or.inl rfl)) (qae (qao (i := 1) scSetOf.nd rfl (Or.inl rfl) (qau op_or (jv 1) (qau op_shl qag (jv 2))))))
     (qae (qal (jv 1)))), ?_⟩
   refine ⟨_, rfl, a, rfl, ⟨_, hS⟩, ?_⟩
   refine qbh (K := K) (a := a) (xs := iNs ns) (fun i σ H' => ∃ v, σ = [some (.ref a), some (.int ((Rb.setN (ns.take i) : Nat) : Int)), v] /\ H' = H) ⟨none, rfl, rfl⟩ (fun i σ H' _ ⟨_, _, e⟩ => e ▸ hS) ?_ ?_
   . rintro i x σ H' hx ⟨v, rfl, rfl⟩
     obtain ⟨n, hn, rfl⟩ := iNs_get hx
     have n1 := hb n (List.mem_of_getElem? hn)
     have e1 : (1 : Int) * 2 ^ ((n : Nat) : Int).toNat = ((2 ^ n : Nat) : Int) := by rw [Int.toNat_natCast, Int.one_mul]; push_cast; rfl
     have e : ((Rb.setN (ns.take (i + 1)) : Nat) : Int) = Builtin.bitOr (Rb.setN (ns.take i) : Nat) ((1 : Int) * 2 ^ ((n : Nat) : Int).toNat) := by rw [e1, bo, take_snoc hn, Rb.setN_snoc]
     refine ⟨_, rfl, _, rfl, _, _, rfl, rfl, ⟨by omega, by omega, by decide⟩, _, _, rfl, rfl, some (.int n), ?_, rfl⟩
     rw [e]
     rfl
   . rintro σ H' ⟨v, rfl, rfl⟩
     refine ⟨_, rfl, ?_⟩
     rw [iNs_len, List.take_of_length_le (Nat.le_refl _)]
     exact q
theorem scLacking : FnScope ["numbers", "there", "number", "least"] ["numbers"] (defScope sLacking) := ⟨rfl, rfl, rfl, by decide +kernel, rfl, by decide +kernel, by decide +kernel⟩
theorem ok_lacking {f : Addr} {fd : FuncData} (F : Fun K "lacking" "lacking" sLacking f fd) : FnOk P w K mg base CX0 1 f fd ["numbers"] (spLacking K) := by
 refine F.okJ scLacking (fun vs H Q E h => ?_) (fun cdv A outer s H vs Q E hr h => ?_)
 . obtain ⟨a, ns, rfl, _⟩ := h
   rfl
 . obtain ⟨a, ns, rfl, hS, hl, q⟩ := h
   have hu := hu_of hr
   refine ⟨_, qac (qao (i := 1) scLacking.nd rfl (Or.inl rfl) qch)
     (qac (qbf PassesOwn.never rfl (qar (jv 0)) (qaj (i := 2) scLacking.nd rfl (Or.inl rfl)) (qae (qbi hu (jv 1) (jv 2) qcp rfl)))
     (qac (qao (i := 3) scLacking.nd rfl (Or.inl rfl) qag)
     (qac (js_while PassesOwn.never (qcs (jc_din hu (jv 3) (jv 1)) (by with_unfolding_all rfl)) (qae (js_aug (i := 3) scLacking.nd rfl (Or.inl rfl) qag ip_add)))
     (qae (qal (jv 3)))))), ?_⟩
   intro D hD
   refine ⟨_, rfl, a, rfl, ⟨_, (qaf hD).seq hS⟩, ?_⟩
   refine qbh (K := K) (a := a) (xs := iNs ns) (fun i σ H' => ∃ v kvs, σ = [some (.ref a), some (.ref D), v, none] /\ H' = upd H D (.dK kvs) /\ kvs.length <= i /\ ∀ x : Nat, (valV kvs (Sum.inl (x : Int) : Key)).isSome = decide (x ∈ ns.take i)) ⟨none, [], rfl, rfl, Nat.le_refl _, fun x => by simp [valV]⟩
     (fun i σ H' _ ⟨_, _, _, e, _⟩ => e ▸ (qaf hD).seq hS) ?_ ?_
   . rintro i x σ H' hx ⟨v, kvs, rfl, rfl, hk, hv⟩
     obtain ⟨n, hn, rfl⟩ := iNs_get hx
     have hi : i < ns.length := (List.getElem?_eq_some_iff.mp hn).1
     refine ⟨_, rfl, _, rfl, D, _, rfl, DPut.k (k := (Sum.inl (n : Int) : Key)) qab (small1000 (by omega)), ?_⟩
     refine ⟨some (.int n), putK kvs (Sum.inl (n : Int)) (.bl true), rfl, qbl, ?_, fun x => ?_⟩
     . have := qcu kvs (Sum.inl (n : Int) : Key) (.bl true)
       omega
     . rw [qbx, take_snoc hn]
       by_cases e : x = n
       . subst e; simp
       . have e' : ¬ (Sum.inl (x : Int) : Key) = Sum.inl (n : Int) := fun z => e (by have := Sum.inl.inj z; omega)
         rw [if_neg e', hv x, Bool.eq_iff_iff]
         simp [e]
   . rintro σ H' ⟨v, kvs, rfl, rfl, hk, hv⟩
     rw [iNs_len, List.take_of_length_le (Nat.le_refl _)] at hv
     refine while_by (fun σ H' => ∃ r : Nat, σ = [some (.ref a), some (.ref D), v, some (.int r)] /\ H' = upd H D (.dK kvs) /\ ∀ x, x < r -> x ∈ ns) (fun σ _ => match σ with | [_, _, _, some (.int r)] => ns.length - r.toNat | _ => 0) ⟨0, rfl, rfl, fun x hx => absurd hx (Nat.not_lt_zero _)⟩ ?_ ?_
     . rintro σ H' ⟨r, rfl, rfl, hr'⟩
       refine ⟨_, rfl, _, rfl, D, _, rfl, DGet.k (k := (Sum.inl (r : Int) : Key)) qab, _, rfl, ?_⟩
       rw [hv r]
       by_cases hm : r ∈ ns
       . rw [decide_eq_true hm]
         have hp := Rb.pigeon (r + 1) ns fun x hx => by
           by_cases e : x = r
           . rw [e]; exact hm
           . exact hr' x (by omega)
         refine iteT ⟨_, rfl, _, _, rfl, rfl, ⟨r + 1, rfl, rfl, fun x hx => ?_⟩, ?_⟩
         . by_cases e : x = r
           . rw [e]; exact hm
           . exact hr' x (by omega)
         . show ns.length - ((r : Int) + 1).toNat < ns.length - (r : Int).toNat
           omega
       . rw [decide_eq_false hm]
         refine iteF ⟨_, rfl, ?_⟩
         have e := Rb.lackN_eq (r := r) (ns := ns) ⟨hm, hr'⟩
         have := q _ (qaf (o := .dK kvs) hD)
         rw [← e] at this
         exact this
     . rintro σ H Q Q' h1 ⟨v, e, w, e2, a, o, e3, g, k, e4, q⟩
       exact ⟨v, e, w, e2, a, o, e3, g, k, e4, h1 _ _ q⟩
end
end Rh
set_option Elab.async false
set_option linter.all false
set_option maxRecDepth 100000
set_option maxHeartbeats 4000000
namespace Rh
open PySem L2 PyProof.Rows MLab
abbrev sNB : Stmt := top 46
abbrev sGets : Stmt := top 47
abbrev sRound : Stmt := top 48
abbrev sGive : Stmt := top 49
abbrev sGives : Stmt := top 50
abbrev sLabels : Stmt := top 51
structure NumAt (N : List Str) (H : Hp) (d : Addr) (f : Str -> Option Nat) : Prop where
 at_ : ∃ kvs : List (Key × V), H d = some (.dK kvs) /\ (∀ z : Str, valV kvs (Sum.inr z : Key) = (f z).map fun n => V.int (n : Nat)) /\ (kvs.map (·.1)).Nodup /\ ∀ k ∈ kvs.map (·.1), k ∈ N.map (Sum.inr : Str -> Key)
theorem NumAt.mono {N : List Str} {H H' : Hp} {d : Addr} {f : Str -> Option Nat} (h : NumAt N H d f) (s : Same H H') : NumAt N H' d f := ⟨let ⟨kvs, a, b⟩ := h.at_; ⟨kvs, s _ _ a, b⟩⟩
theorem NumAt.get {N : List Str} {H : Hp} {d : Addr} {f : Str -> Option Nat} (h : NumAt N H d f) (z : Str) : DGet H d (.str z) ((f z).map fun n => V.int (n : Nat)) := by
 obtain ⟨kvs, a, b, _⟩ := h.at_
 rw [← b z]
 exact DGet.k (k := (Sum.inr z : Key)) a
theorem NumAt.isd {N : List Str} {H : Hp} {d : Addr} {f : Str -> Option Nat} (h : NumAt N H d f) : ∃ kvs : List (Key × V), H d = some (.dK kvs) := let ⟨kvs, a, _⟩ := h.at_; ⟨kvs, a⟩
theorem NumAt.put {N : List Str} {H : Hp} {d : Addr} {f : Str -> Option Nat} (h : NumAt N H d f) {z : Str} {n : Nat} (hz : z ∈ N) (hf : f z = none) (le : N.length <= 14) : ∃ H', DPut H d (.str z) (.int (n : Nat)) H' /\ NumAt N H' d (fun y => if y = z then some n else f y) /\ ∃ o, H' = upd H d o := by
 obtain ⟨kvs, a, b, nd, sub⟩ := h.at_
 have ln : kvs.length <= 14 := by
   have := len_sub nd sub
   rw [List.length_map, List.length_map] at this
   omega
 refine ⟨_, DPut.k (k := (Sum.inr z : Key)) a (small1000 (by omega)), ⟨putK kvs (Sum.inr z) (.int (n : Nat)), qab, fun y => ?_, ?_, ?_⟩, _, rfl⟩
 . rw [qbx]
   by_cases e : y = z
   . subst e; rw [if_pos rfl, if_pos rfl]; rfl
   . rw [if_neg e, if_neg (fun q => e (Sum.inr.inj q))]; exact b y
 . rw [putK_new _ (by rw [b z, hf]; rfl), List.map_append]
   refine List.nodup_append.mpr ⟨nd, List.pairwise_singleton _ _, fun x hx y hy e => ?_⟩
   have ey : y = Sum.inr z := by simpa using hy
   subst ey
   subst e
   have : (valV kvs (Sum.inr z : Key)).isSome = true := by
     obtain ⟨p, hp, ep⟩ := List.mem_map.mp hx
     have an : (kvs.any fun kv => decide (kv.1 = (Sum.inr z : Key))) = true := List.any_eq_true.mpr ⟨p, hp, decide_eq_true ep⟩
     rw [qcl] at an
     exact an
   rw [b z, hf] at this
   cases this
 . rw [putK_new _ (by rw [b z, hf]; rfl), List.map_append]
   intro k hk
   rcases List.mem_append.mp hk with hk | hk
   . exact sub k hk
   . have : k = Sum.inr z := by simpa using hk
     rw [this]
     exact List.mem_map.mpr ⟨z, hz, rfl⟩
def nbs (rs : Rws) (f : Str -> Option Nat) (z : Str) : List Nat := (gOf rs z).filterMap f
theorem qcj {rs : Rws} {f : Str -> Option Nat} {z : Str} {n : Nat} : n ∈ nbs rs f z ↔ ∃ y ∈ gOf rs z, f y = some n := List.mem_filterMap
theorem gOf_len {rs : Rws} (z : Str) : (gOf rs z).length <= rs.length := by
 unfold gOf
 split
 . exact rd_len _
 . exact Nat.zero_le _
def bareR (rs : Rws) (f : Str -> Option Nat) (z : Str) : List Str := (gOf rs z).filter fun y => (f y).isNone
def getsB (rs : Rws) (f : Str -> Option Nat) (z : Str) (n : Nat) : Bool := decide (Rb.lackN (nbs rs f z) = n) && (bareR rs f z).all fun y => decide (n ∈ nbs rs f y)
theorem getsB_iff {rs : Rws} {f : Str -> Option Nat} {z : Str} {n : Nat} : getsB rs f z n = true ↔ Gets (gOf rs) f z n := by
 unfold getsB Gets bareR
 rw [Bool.and_eq_true, decide_eq_true_iff, List.all_eq_true]
 have lk : Rb.Lacks (Rb.lackN (nbs rs f z)) (nbs rs f z) := Rb.lackI_lacks _
 constructor
 . rintro ⟨rfl, h⟩
   refine ⟨fun j hj => qcj.mp (lk.2 j hj), fun y hy e => lk.1 (qcj.mpr ⟨y, hy, e⟩), fun y hy e => ?_⟩
   exact qcj.mp (of_decide_eq_true (h y (List.mem_filter.mpr ⟨hy, by rw [e]; rfl⟩)))
 . rintro ⟨h1, h2, h3⟩
   refine ⟨(Rb.lackN_eq ⟨fun m => ?_, fun x hx => qcj.mpr (h1 x hx)⟩).symm, fun y hy => decide_eq_true ?_⟩
   . obtain ⟨y, hy, e⟩ := qcj.mp m
     exact h2 y hy e
   . obtain ⟨hy1, hy2⟩ := List.mem_filter.mp hy
     exact qcj.mpr (h3 y hy1 (by simpa using hy2))
def rndB (rs : Rws) (f : Str -> Option Nat) (n : Nat) : List Str := ((rs.map (·.1)).filter fun z => (f z).isNone).filter fun z => getsB rs f z n
theorem rnd_rnd (rs : Rws) (R : Rs Str) (n : Nat) : Rnd (gOf rs) (rs.map (·.1)) R n (rndB rs (fOf R) n) := ⟨fun x => by
 unfold rndB
 rw [List.mem_filter, List.mem_filter, getsB_iff]
 constructor
 . rintro ⟨⟨a, b⟩, c⟩
   exact ⟨a, by simpa using b, c⟩
 . rintro ⟨a, b, c⟩
   exact ⟨⟨a, by rw [b]; rfl⟩, c⟩, List.filter_sublist.trans List.filter_sublist⟩
def spNB (CG : Addr) : Sp := fun vs H Q _ => ∃ (g d : Addr) (rs : Rws) (z : Str) (f : Str -> Option Nat), vs = [.ref g, .ref d, .str z] /\ GrAt CG H g rs /\ GoodRows rs /\ rs.length <= 14 /\ z ∈ rs.map (·.1) /\ NumAt (rs.map (·.1)) H d f ∧
 ∀ H' l, Same H H' -> H l = none -> H' l = some (.lst (iNs (nbs rs f z))) -> Q (.ref l) H'
def spGets (CG : Addr) : Sp := fun vs H Q _ => ∃ (g d : Addr) (rs : Rws) (z : Str) (f : Str -> Option Nat) (n : Nat), vs = [.ref g, .ref d, .str z, .int (n : Nat)] /\ GrAt CG H g rs /\ GoodRows rs /\ rs.length <= 14 /\ z ∈ rs.map (·.1) /\ NumAt (rs.map (·.1)) H d f ∧
 ∀ H', Same H H' -> Q (.bl (getsB rs f z n)) H'
def spRound (CG : Addr) : Sp := fun vs H Q _ => ∃ (g d : Addr) (rs : Rws) (f : Str -> Option Nat) (n : Nat), vs = [.ref g, .ref d, .int (n : Nat)] /\ GrAt CG H g rs /\ GoodRows rs /\ rs.length <= 14 /\ NumAt (rs.map (·.1)) H d f ∧
 ∀ H' l, Same H H' -> H l = none -> H' l = some (.lst ((rndB rs f n).map V.str)) -> Q (.ref l) H'
theorem map_fm {α β : Type} (g : α -> Option β) (h : β -> V) : ∀ l : List α, (l.filterMap g).map h = l.filterMap fun x => (g x).map h
 | [] => rfl
 | a :: l => by
   rw [List.filterMap_cons, List.filterMap_cons]
   cases g a with
   | none => exact map_fm g h l
   | some b => rw [List.map_cons, map_fm g h l]; rfl
theorem fil_fm (p : Str -> Bool) : ∀ l : List Str, (l.filter p).map V.str = l.filterMap fun x => if p x = true then some (V.str x) else none
 | [] => rfl
 | a :: l => by
   rw [List.filter_cons, List.filterMap_cons]
   cases p a with
   | false => exact fil_fm p l
   | true =>
     rw [if_pos rfl, if_pos rfl, List.map_cons, fil_fm p l]
theorem map_fmS {α : Type} (f : α -> V) : ∀ l : List α, l.map f = l.filterMap fun x => some (f x)
 | [] => rfl
 | a :: l => by rw [List.map_cons, List.filterMap_cons, map_fmS f l]
section
variable {P : Program} {w : World} {K : PySem.W.Frag} {mg : Str -> Option Value} {base : Heap}
abbrev pNB : List Str := ["ground", "numbered", "name"]
theorem scNB : FnScope pNB pNB (defScope sNB) := ⟨rfl, rfl, rfl, by decide +kernel, rfl, by decide +kernel, by decide +kernel⟩
theorem ok_nb {f CG : Addr} {fd : FuncData} (F : Fun K "numbers_behind" "numbers_behind" sNB f fd) (B : Blt mg) (G : KitG mg) (T : KitP K mg) (M : GM K mg CG) : FnOk P w K mg base CX0 3 f fd pNB (spNB CG) := by
 obtain ⟨fC, fdC, C⟩ := M.cls
 obtain ⟨fR, fdR, hR⟩ := M.fr
 obtain ⟨fN, fdN, hN⟩ := M.isn
 have GR : FnOk P w K mg base CX0 2 fR fdR ["self", "name"] (spGFrom CG) := ok_gfrom hR.fn C B G T hN
 refine F.okJ scNB (fun vs H Q E h => ?_) (fun cdv A outer s H vs Q E hr h => ?_)
 . obtain ⟨g, d, rs, z, nf, rfl, _⟩ := h
   rfl
 . obtain ⟨g, d, rs, z, nf, rfl, gr, good, le14, hz, hd, q⟩ := h
   have hu := hu_of hr
   refine ⟨_, qae (qal (qcg (N' := ["end", "numbered"]) (ix := [none, some 1]) rfl ⟨rfl, rfl, rfl, rfl, rfl⟩ (qar (je_m1 hR C.cl GR hr (jv 0) (qaa (jv 2) qad))) (fun C s2 H2 fp pins =>
     ⟨qaj (i := 0) (show (["end", "numbered"] : List Str).Nodup by decide +kernel) rfl (Or.inl rfl), qbr (qcs (jc_din hu (jv 0) (jv 1))), qbd hu (jv 1) (jv 0) (fun _ _ => rfl)⟩))), ?_⟩
   obtain ⟨dx, fs, hg, l1, l2⟩ := gr.ins
   obtain ⟨r, hr', rfl⟩ := List.mem_map.mp hz
   refine ⟨_, rfl, g, dx, fs, rfl, hg, l2, _, rfl, g, rs, r, rfl, gr, hr', good.nm r hr', fun H1 le s1 hle => ?_⟩
   have s2 : Same H (upd H1 le (.lst ((rdOf rs r).map V.str))) := s1.trans (qaf hle)
   have hl2 : upd H1 le (.lst ((rdOf rs r).map V.str)) le = some (.lst ((rdOf rs r).map V.str)) := qab
   generalize upd H1 le (.lst ((rdOf rs r).map V.str)) = H2 at s2 hl2
   have hd2 := hd.mono s2
   refine ⟨le, rfl, ⟨_, .of hl2⟩, fun W hW => ?_⟩
   refine blk_fm (K := K) (a := le) (xs := rdOf rs r) (enc := V.str) (out := fun y => (nf y).map fun n => V.int (n : Nat)) (rest := [some (.ref d)]) hW hl2 (small1000 (Nat.le_trans (rd_len r) (by omega))) ?_ ?_ ?_
   . intro x hx G' s3 R k
     refine ⟨_, rfl, _, rfl, d, _, rfl, (hd2.mono s3).get x, _, rfl, k G' fun _ _ h => h⟩
   . intro x hx v ev G' s3 R k
     have gx := (hd2.mono s3).get x
     rw [ev] at gx
     exact ⟨_, rfl, _, rfl, d, _, rfl, gx, k G' fun _ _ h => h⟩
   . intro G' s3 hG
     refine q _ W (s2.trans s3) (qbm s2 hW) ?_
     rw [hG]
     congr 2
     unfold iNs nbs
     rw [gOf_row good.nd hr', map_fm]
abbrev nGets : List Str := ["ground", "numbered", "name", "number", "bare"]
abbrev pGets : List Str := ["ground", "numbered", "name", "number"]
theorem scGets : FnScope nGets pGets (defScope sGets) := ⟨rfl, rfl, rfl, by decide +kernel, rfl, by decide +kernel, by decide +kernel⟩
theorem ok_gets {f fB fL CG : Addr} {fd fdB fdL : FuncData} (F : Fun K "gets_number" "gets_number" sGets f fd) (B : Blt mg) (G : KitG mg) (T : KitP K mg) (M : GM K mg CG) (hB : Has K mg "numbers_behind" sNB pNB fB fdB) (hL : Has K mg "lacking" sLacking ["numbers"] fL fdL) : FnOk P w K mg base CX0 4 f fd pGets (spGets CG) := by
 have GB : FnOk P w K mg base CX0 3 fB fdB pNB (spNB CG) := ok_nb hB.fn B G T M
 have GL : FnOk P w K mg base CX0 1 fL fdL ["numbers"] (spLacking K) := ok_lacking hL.fn
 obtain ⟨fC, fdC, C⟩ := M.cls
 obtain ⟨fR, fdR, hR⟩ := M.fr
 obtain ⟨fN, fdN, hN⟩ := M.isn
 have GR : FnOk P w K mg base CX0 2 fR fdR ["self", "name"] (spGFrom CG) := ok_gfrom hR.fn C B G T hN
 refine F.okJ scGets (fun vs H Q E h => ?_) (fun cdv A outer s H vs Q E hr h => ?_)
 . obtain ⟨g, d, rs, z, nf, n, rfl, _⟩ := h
   rfl
 . obtain ⟨g, d, rs, z, nf, n, rfl, gr, good, le14, hz, hd, q⟩ := h
   have hu := hu_of hr
   have r1 : Room 1 _ := hr.mono (by decide)
   have r2 : Room 2 _ := hr.mono (by decide)
   refine ⟨_, qac (qba (qak op_ne (je_f hL GL r1 (by rfl) (qaa (je_f hB GB hr (by rfl) (qaa (jv 0) (qaa (jv 1) (qaa (jv 2) qad)))) qad)) (jv 3) (nomark _)) (qae (qal qcp)) qap)
     (qac (qcw (i := 4) (N' := ["end", "numbered"]) (ix := [none, some 1]) scGets.nd rfl (Or.inl rfl) rfl ⟨rfl, rfl, rfl, rfl, rfl⟩ (qar (je_m1 hR C.cl GR r2 (jv 0) (qaa (jv 2) qad))) (fun C s2 H2 fp pins =>
       ⟨qaj (i := 0) (show (["end", "numbered"] : List Str).Nodup by decide +kernel) rfl (Or.inl rfl), qbr (qcs (jc_dnotin hu (jv 0) (jv 1))), jv 0⟩))
     (qae (qal (qan (call_allB rfl) (by rfl) T.all boot_all (qaa (qcg (N' := ["end", "number", "ground", "numbered"]) (ix := [none, some 3, some 0, some 1]) (te := tOp (rIn K false) (tVar 1) (tCall (spNB CG) [] E0 (tCons (tVar 2) (tCons (tVar 3) (tCons (tVar 0) tNil))))) rfl ⟨rfl, rfl, rfl, rfl, rfl⟩ (qar (jv 4)) (fun C s2 H2 fp pins =>
       ⟨qaj (i := 0) (show (["end", "number", "ground", "numbered"] : List Str).Nodup by decide +kernel) rfl (Or.inl rfl), qbo, qcn qca (jv 1) (je_f hB GB hr (by rfl) (qaa (jv 2) (qaa (jv 3) (qaa (jv 0) qad)))) (by with_unfolding_all rfl)⟩)) qad))))), ?_⟩
   refine ⟨_, rfl, _, rfl, _, rfl, g, d, rs, z, nf, rfl, gr, good, le14, hz, hd, fun H1 l1 s1 hl1 hl1' => ?_⟩
   have ln : ∀ y, (nbs rs nf y).length <= 14 := fun y => Nat.le_trans (List.length_filterMap_le _ _) (Nat.le_trans (gOf_len y) le14)
   refine ⟨l1, _, rfl, .of hl1', by have := ln z; omega, fun H2 s2 => ⟨_, rfl, rfl, _, rfl, ?_⟩⟩
   have s12 := s1.trans s2
   by_cases c : Rb.lackN (nbs rs nf z) = n
   . refine qcx (by rw [c]; simp) ?_
     obtain ⟨dx, fs, hg, e1, e2⟩ := (gr.mono s12).ins
     obtain ⟨r, hr', rfl⟩ := List.mem_map.mp hz
     refine ⟨_, rfl, g, dx, fs, rfl, hg, e2, _, rfl, g, rs, r, rfl, gr.mono s12, hr', good.nm r hr', fun H3 le s3 hle => ?_⟩
     have s4 : Same H (upd H3 le (.lst ((rdOf rs r).map V.str))) := s12.trans (s3.trans (qaf hle))
     have hl4 : upd H3 le (.lst ((rdOf rs r).map V.str)) le = some (.lst ((rdOf rs r).map V.str)) := qab
     generalize upd H3 le (.lst ((rdOf rs r).map V.str)) = H4 at s4 hl4
     refine ⟨le, rfl, ⟨_, .of hl4⟩, fun W hW => ?_⟩
     refine blk_fm (K := K) (a := le) (xs := rdOf rs r) (enc := V.str) (out := fun y => if (nf y).isNone = true then some (V.str y) else none) (rest := [some (.ref d)]) hW hl4 (small1000 (Nat.le_trans (rd_len r) (by omega))) ?_ ?_ ?_
     . intro x hx G' s5 R k
       refine ⟨_, rfl, _, rfl, d, _, rfl, ((hd.mono s4).mono s5).get x, _, rfl, ?_⟩
       have := k G' fun _ _ h => h
       cases e : nf x with
       | none => rw [e] at this; exact this
       | some m => rw [e] at this; exact this
     . intro x hx v ev G' s5 R k
       have : v = V.str x := by
         split at ev
         . exact (Option.some.inj ev).symm
         . cases ev
       subst this
       exact ⟨_, rfl, k G' fun _ _ h => h⟩
     . intro G5 s5 hG
       rw [← fil_fm (fun y => (nf y).isNone), ← gOf_row good.nd hr'] at hG
       have hb : G5 W = some (.lst ((bareR rs nf r.1).map V.str)) := hG
       have s45 := s4.trans s5
       refine ⟨_, rfl, W, rfl, ⟨_, .of hb⟩, fun U hU => ?_⟩
       have bl : (bareR rs nf r.1).length <= 14 := Nat.le_trans (List.length_filter_le _ _) (Nat.le_trans (gOf_len r.1) le14)
       refine blk_fm (K := K) (a := W) (xs := bareR rs nf r.1) (enc := V.str) (out := fun y => some (V.bl (decide (n ∈ nbs rs nf y)))) (rest := [some (.int (n : Nat)), some (.ref g), some (.ref d)]) hU hb (small1000 (by omega)) ?_ ?_ ?_
       . intro x hx G' s6 R k
         exact k G' fun _ _ h => h
       . intro x hx v ev G' s6 R k
         obtain rfl := Option.some.inj ev
         have hxN : x ∈ rs.map (·.1) := gOf_cl good.nd _ hz x (List.mem_filter.mp hx).1
         have sA := s45.trans s6
         refine ⟨_, rfl, _, rfl, _, rfl, _, rfl, g, d, rs, x, nf, rfl, gr.mono sA, good, le14, hxN, hd.mono sA, fun H7 l7 s7 hl7 hl7' => ?_⟩
         refine ⟨l7, _, rfl, .inl (.of hl7'), rfl, iNs_flat _, ?_⟩
         rw [iNs_in]
         exact k H7 s7
       . intro G6 s6 hG6
         rw [← map_fmS] at hG6
         refine ⟨U, (bareR rs nf r.1).map fun y => decide (n ∈ nbs rs nf y), rfl, .of (by rw [hG6, List.map_map]; rfl), ?_⟩
         have := q G6 (s45.trans s6)
         unfold getsB at this
         rw [decide_eq_true c, Bool.true_and] at this
         rw [List.all_map]
         exact this
   . refine iteT_of (by
       have : ¬ V.int ((Rb.lackN (nbs rs nf z) : Nat) : Int) = V.int ((n : Nat) : Int) := fun e => c (by have := V.int.inj e; omega)
       rw [decide_eq_false this]; rfl) ?_
     have := q H2 s12
     unfold getsB at this
     rw [decide_eq_false c, Bool.false_and] at this
     exact this
end
end Rh
set_option Elab.async false
set_option linter.all false
set_option maxRecDepth 100000
set_option maxHeartbeats 4000000
namespace Rh
open PySem L2 PyProof.Rows MLab
def RndsAt (H : Hp) (ps : List Addr) (ls : List (List Str)) : Prop := ps.length = ls.length /\ ∀ (i : Nat) (p : Addr) (l : List Str), ps[i]? = some p -> ls[i]? = some l -> H p = some (.lst (l.map V.str))
theorem RndsAt.mono {H H' : Hp} {ps : List Addr} {ls : List (List Str)} (h : RndsAt H ps ls) (s : Same H H') : RndsAt H' ps ls := ⟨h.1, fun i p l e1 e2 => s _ _ (h.2 i p l e1 e2)⟩
theorem RndsAt.nil {H : Hp} : RndsAt H [] [] := ⟨rfl, fun i p l e => (nomatch e)⟩
theorem qce {α : Type} {xs : List α} {x y : α} {i : Nat} (h : (xs ++ [x])[i]? = some y) : (i < xs.length /\ xs[i]? = some y) ∨ (i = xs.length /\ y = x) := by
 by_cases hi : i < xs.length
 . rw [List.getElem?_append_left hi] at h
   exact .inl ⟨hi, h⟩
 . have hi' : i = xs.length := by
     have := (List.getElem?_eq_some_iff.mp h).1
     rw [List.length_append, List.length_singleton] at this
     omega
   subst hi'
   rw [List.getElem?_append_right (Nat.le_refl _), Nat.sub_self] at h
   exact .inr ⟨rfl, (Option.some.inj h).symm⟩
theorem RndsAt.snoc {H : Hp} {ps : List Addr} {ls : List (List Str)} {p : Addr} {l : List Str} (h : RndsAt H ps ls) (hp : H p = some (.lst (l.map V.str))) : RndsAt H (ps ++ [p]) (ls ++ [l]) := by
 refine ⟨by rw [List.length_append, List.length_append, h.1]; rfl, fun i p' l' e1 e2 => ?_⟩
 rcases qce e1 with ⟨i1, e1⟩ | ⟨i1, rfl⟩
 . rcases qce e2 with ⟨_, e2⟩ | ⟨i2, _⟩
   . exact h.2 i p' l' e1 e2
   . have := h.1; omega
 . rcases qce e2 with ⟨i2, _⟩ | ⟨_, rfl⟩
   . have := h.1; omega
   . exact hp
theorem RndsAt.app {H : Hp} {ps qs : List Addr} {ls ms : List (List Str)} (h : RndsAt H ps ls) (k : RndsAt H qs ms) : RndsAt H (ps ++ qs) (ls ++ ms) := by
 refine ⟨by rw [List.length_append, List.length_append, h.1, k.1], fun i p l e1 e2 => ?_⟩
 by_cases c : i < ps.length
 . rw [List.getElem?_append_left c] at e1
   rw [List.getElem?_append_left (by rw [← h.1]; exact c)] at e2
   exact h.2 i p l e1 e2
 . rw [List.getElem?_append_right (by omega)] at e1
   rw [List.getElem?_append_right (by rw [← h.1]; omega)] at e2
   rw [← h.1] at e2
   exact k.2 _ p l e1 e2
theorem RndsAt.fr {H H' : Hp} {ps : List Addr} {ls : List (List Str)} {d : Addr} {kvs : List (Key × V)} (h : RndsAt H ps ls) (hd : H d = some (.dK kvs)) (f : Fr H d H') : RndsAt H' ps ls := ⟨h.1, fun i p l e1 e2 => f _ _ (h.2 i p l e1 e2) (fun e => by have := h.2 i p l e1 e2; rw [e, hd] at this; cases this)⟩
theorem NumAt.fr {N : List Str} {H H' : Hp} {d e : Addr} {f : Str -> Option Nat} (h : NumAt N H d f) (s : Fr H e H') (ne : d ≠ e) : NumAt N H' d f := ⟨let ⟨kvs, a, b⟩ := h.at_; ⟨kvs, s _ _ a ne, b⟩⟩
theorem NumAt.congr {N : List Str} {H : Hp} {d : Addr} {f g : Str -> Option Nat} (h : NumAt N H d f) (e : ∀ z, f z = g z) : NumAt N H d g := ⟨let ⟨kvs, a, b, c⟩ := h.at_; ⟨kvs, a, fun z => by rw [b z, e z], c⟩⟩
def Apart (CG : Addr) (H : Hp) (g d : Addr) : Prop := ∀ dx lo rd, H g = some (.ins CG dx [("order", .ref lo), ("roads", .ref rd)]) -> rd ≠ d
theorem GrAt.fr {CG : Addr} {H H' : Hp} {a d : Addr} {rs : Rws} (h : GrAt CG H a rs) (hd : ∃ kvs : List (Key × V), H d = some (.dK kvs)) (ap : Apart CG H a d) (s : Fr H d H') : GrAt CG H' a rs := by
 obtain ⟨dx, lo, rd, kv, h1, h2, h3, h4⟩ := h
 obtain ⟨kvs, hd⟩ := hd
 have ne : ∀ {b : Addr} {o : HO}, H b = some o -> (∀ kv : List (Key × V), o ≠ .dK kv) -> b ≠ d := fun hb no e => by rw [e, hd] at hb; exact no kvs (Option.some.inj hb).symm
 refine ⟨dx, lo, rd, kv, s _ _ h1 (ne h1 (fun _ => by simp)), s _ _ h2 (ne h2 (fun _ => by simp)), s _ _ h3 (ap dx lo rd h1), fun r hr => let ⟨q, a, b⟩ := h4 r hr; ⟨q, a, s _ _ b (ne b (fun _ => by simp))⟩⟩
def gave (f : Str -> Option Nat) (n : Nat) (ns : List Str) : Str -> Option Nat := fun z => if z ∈ ns then some n else f z
theorem gave_fOf {R : Rs Str} {n : Nat} {ns : List Str} (h : ∀ z ∈ ns, fOf R z = none) (z : Str) : gave (fOf R) n ns z = fOf (R ++ [(n, ns)]) z := by
 unfold gave
 rw [fOf_snoc]
 by_cases c : z ∈ ns
 . rw [if_pos c, h z c]
   show _ = if z ∈ ns then some n else none
   rw [if_pos c]
 . rw [if_neg c]
   cases fOf R z with
   | some m => rfl
   | none =>
     show none = if z ∈ ns then some n else none
     rw [if_neg c]
theorem rs_snoc {R : Rs Str} {n : Nat} {ls : List (List Str)} {l : List Str} : R ++ (ls ++ [l]).map (fun x => (n, x)) = (R ++ ls.map fun x => (n, x)) ++ [(n, l)] := by
 rw [List.map_append, List.append_assoc]
 rfl
def spGive (CG : Addr) : Sp := fun vs H Q _ => ∃ (g d : Addr) (rs : Rws) (R : Rs Str) (n : Nat), vs = [.ref g, .ref d, .int (n : Nat)] /\ GrAt CG H g rs /\ GoodRows rs /\ rs.length <= 14 /\ NumAt (rs.map (·.1)) H d (fOf R) /\ Apart CG H g d ∧
 ∀ H' l ps ls, H l = none -> H' l = some (.lst (ps.map V.ref)) -> RndsAt H' ps ls -> (∀ p ∈ ps, H p = none) -> NumAt (rs.map (·.1)) H' d (fOf (R ++ ls.map fun x => (n, x))) -> Give (gOf rs) (rs.map (·.1)) n R (R ++ ls.map fun x => (n, x)) -> Fr H d H' -> Q (.ref l) H'
def bareN (rs : Rws) (f : Str -> Option Nat) : Nat := ((rs.map (·.1)).filter fun z => (f z).isNone).length
theorem bare_lt {rs : Rws} {R : Rs Str} {n : Nat} {ns : List Str} (h : ∀ z ∈ ns, z ∈ rs.map (·.1) /\ fOf R z = none) (ne : ns ≠ []) : bareN rs (fOf (R ++ [(n, ns)])) < bareN rs (fOf R) := by
 unfold bareN
 generalize rs.map (·.1) = N at *
 have sub : (N.filter fun z => (fOf (R ++ [(n, ns)]) z).isNone).Sublist (N.filter fun z => (fOf R z).isNone) := by
   have e : (N.filter fun z => (fOf (R ++ [(n, ns)]) z).isNone) = (N.filter fun z => (fOf R z).isNone).filter fun z => (fOf (R ++ [(n, ns)]) z).isNone := by
     rw [List.filter_filter]
     refine List.filter_congr fun z _ => ?_
     cases c : (fOf (R ++ [(n, ns)]) z).isNone with
     | false => simp
     | true =>
       have := f_none (by simpa using c)
       rw [this]
       rfl
   rw [e]
   exact List.filter_sublist
 obtain ⟨z0, r, e0⟩ := List.exists_cons_of_ne_nil ne
 have m0 : z0 ∈ ns := by rw [e0]; exact List.mem_cons_self
 obtain ⟨hz, ez⟩ := h z0 m0
 rcases Nat.lt_or_ge (N.filter fun z => (fOf (R ++ [(n, ns)]) z).isNone).length (N.filter fun z => (fOf R z).isNone).length with c | c
 . exact c
 . have e := sub.eq_of_length_le c
   have m : z0 ∈ N.filter fun z => (fOf R z).isNone := List.mem_filter.mpr ⟨hz, by rw [ez]; rfl⟩
   rw [← e] at m
   have := (List.mem_filter.mp m).2
   rw [f_new ez m0] at this
   cases this
def bareH (N : List Str) (H : Hp) (d : Addr) : Nat := match H d with
 | some (.dK kvs) => (N.filter fun z => (valV kvs (Sum.inr z : Key)).isNone).length
 | _ => 0
theorem NumAt.bare {rs : Rws} {H : Hp} {d : Addr} {f : Str -> Option Nat} (h : NumAt (rs.map (·.1)) H d f) : bareH (rs.map (·.1)) H d = bareN rs f := by
 obtain ⟨kvs, a, b, _⟩ := h.at_
 unfold bareH bareN
 rw [a]
 show ((rs.map (·.1)).filter fun z => (valV kvs (Sum.inr z : Key)).isNone).length = _
 congr 1
 refine List.filter_congr fun z _ => ?_
 rw [b z]
 cases f z <;> rfl
section
variable {P : Program} {w : World} {K : PySem.W.Frag} {mg : Str -> Option Value} {base : Heap}
abbrev nRound : List Str := ["ground", "numbered", "number", "bare"]
abbrev pRound : List Str := ["ground", "numbered", "number"]
theorem scRound : FnScope nRound pRound (defScope sRound) := ⟨rfl, rfl, rfl, by decide +kernel, rfl, by decide +kernel, by decide +kernel⟩
theorem ok_round {f fB fL fG CG : Addr} {fd fdB fdL fdG : FuncData} (F : Fun K "round_of" "round_of" sRound f fd) (B : Blt mg) (G : KitG mg) (T : KitP K mg) (M : GM K mg CG) (hB : Has K mg "numbers_behind" sNB pNB fB fdB) (hL : Has K mg "lacking" sLacking ["numbers"] fL fdL) (hG : Has K mg "gets_number" sGets pGets fG fdG) : FnOk P w K mg base CX0 5 f fd pRound (spRound CG) := by
 have GG : FnOk P w K mg base CX0 4 fG fdG pGets (spGets CG) := ok_gets hG.fn B G T M hB hL
 obtain ⟨fC, fdC, C⟩ := M.cls
 obtain ⟨fM, fdM, hM⟩ := M.nm
 have GM : FnOk P w K mg base CX0 1 fM fdM ["self"] (spGNames CG) := ok_gnames hM.fn C G
 refine F.okJ scRound (fun vs H Q E h => ?_) (fun cdv A outer s H vs Q E hr h => ?_)
 . obtain ⟨g, d, rs, nf, n, rfl, _⟩ := h
   rfl
 . obtain ⟨g, d, rs, nf, n, rfl, gr, good, le14, hd, q⟩ := h
   have hu := hu_of hr
   have r1 : Room 1 _ := hr.mono (by decide)
   refine ⟨_, qac (qcw (i := 3) (N' := ["name", "numbered"]) (ix := [none, some 1]) scRound.nd rfl (Or.inl rfl) rfl ⟨rfl, rfl, rfl, rfl, rfl⟩ (qar (je_m0 hM C.cl GM r1 (jv 0))) (fun C s2 H2 fp pins =>
       ⟨qaj (i := 0) (show (["name", "numbered"] : List Str).Nodup by decide +kernel) rfl (Or.inl rfl), qbr (qcs (jc_dnotin hu (jv 0) (jv 1))), jv 0⟩))
     (qae (qal (qcg (N' := ["name", "ground", "numbered", "number"]) (ix := [none, some 0, some 1, some 2]) rfl ⟨rfl, rfl, rfl, rfl, rfl⟩ (qar (jv 3)) (fun C s2 H2 fp pins =>
       ⟨qaj (i := 0) (show (["name", "ground", "numbered", "number"] : List Str).Nodup by decide +kernel) rfl (Or.inl rfl), qbr (qbv (je_f hG GG hr (by rfl) (qaa (jv 1) (qaa (jv 2) (qaa (jv 0) (qaa (jv 3) qad)))))), jv 0⟩)))), ?_⟩
   obtain ⟨dx, fs, hg, l1, l2⟩ := gr.ins
   refine ⟨_, rfl, g, dx, fs, rfl, hg, l1, g, rs, rfl, gr, fun ln hln => ⟨ln, rfl, ⟨_, .of qab⟩, fun W hW => ?_⟩⟩
   have s2 : Same H (upd H ln (.lst ((rs.map (·.1)).map V.str))) := qaf hln
   have hl2 : upd H ln (.lst ((rs.map (·.1)).map V.str)) ln = some (.lst ((rs.map (·.1)).map V.str)) := qab
   generalize upd H ln (.lst ((rs.map (·.1)).map V.str)) = H2 at s2 hl2 hW
   refine blk_fm (K := K) (a := ln) (xs := rs.map (·.1)) (enc := V.str) (out := fun y => if (nf y).isNone = true then some (V.str y) else none) (rest := [some (.ref d)]) hW hl2 (small1000 (by rw [List.length_map]; omega)) ?_ ?_ ?_
   . intro x hx G' s5 R k
     refine ⟨_, rfl, _, rfl, d, _, rfl, ((hd.mono s2).mono s5).get x, _, rfl, ?_⟩
     have := k G' fun _ _ h => h
     cases e : nf x with
     | none => rw [e] at this; exact this
     | some m => rw [e] at this; exact this
   . intro x hx v ev G' s5 R k
     have : v = V.str x := by
       split at ev
       . exact (Option.some.inj ev).symm
       . cases ev
     subst this
     exact ⟨_, rfl, k G' fun _ _ h => h⟩
   . intro G5 s5 hG5
     rw [← fil_fm (fun y => (nf y).isNone)] at hG5
     have s25 := s2.trans s5
     refine ⟨_, rfl, W, rfl, ⟨_, .of hG5⟩, fun U hU => ?_⟩
     have bl : ((rs.map (·.1)).filter fun y => (nf y).isNone).length <= 14 := Nat.le_trans (List.length_filter_le _ _) (by rw [List.length_map]; exact le14)
     refine blk_fm (K := K) (a := W) (xs := (rs.map (·.1)).filter fun y => (nf y).isNone) (enc := V.str) (out := fun y => if getsB rs nf y n = true then some (V.str y) else none) (rest := [some (.ref g), some (.ref d), some (.int (n : Nat))]) hU hG5 (small1000 (by omega)) ?_ ?_ ?_
     . intro x hx G' s6 R k
       have sA := s25.trans s6
       refine ⟨_, rfl, _, rfl, _, rfl, _, rfl, g, d, rs, x, nf, n, rfl, gr.mono sA, good, le14, (List.mem_filter.mp hx).1, hd.mono sA, fun H7 s7 => ⟨_, rfl, ?_⟩⟩
       have := k H7 s7
       cases e : getsB rs nf x n with
       | true => rw [e] at this; exact this
       | false => rw [e] at this; exact this
     . intro x hx v ev G' s6 R k
       have : v = V.str x := by
         split at ev
         . exact (Option.some.inj ev).symm
         . cases ev
       subst this
       exact ⟨_, rfl, k G' fun _ _ h => h⟩
     . intro G6 s6 hG6
       rw [← fil_fm (fun y => getsB rs nf y n)] at hG6
       exact q G6 U (s25.trans s6) (qbm s25 hU) hG6
abbrev nGive : List Str := ["ground", "numbered", "number", "rounds", "names", "name"]
theorem scGive : FnScope nGive pRound (defScope sGive) := ⟨rfl, rfl, rfl, by decide +kernel, rfl, by decide +kernel, by decide +kernel⟩
theorem ok_give {f fB fL fG fR CG : Addr} {fd fdB fdL fdG fdR : FuncData} (F : Fun K "give_number" "give_number" sGive f fd) (B : Blt mg) (G : KitG mg) (T : KitP K mg) (M : GM K mg CG) (hB : Has K mg "numbers_behind" sNB pNB fB fdB) (hL : Has K mg "lacking" sLacking ["numbers"] fL fdL) (hG : Has K mg "gets_number" sGets pGets fG fdG)
   (hR : Has K mg "round_of" sRound pRound fR fdR) : FnOk P w K mg base CX0 6 f fd pRound (spGive CG) := by
 have GR : FnOk P w K mg base CX0 5 fR fdR pRound (spRound CG) := ok_round hR.fn B G T M hB hL hG
 refine F.okJ scGive (fun vs H Q E h => ?_) (fun cdv A outer s H vs Q E hr h => ?_)
 . obtain ⟨g, d, rs, R, n, rfl, _⟩ := h
   rfl
 . obtain ⟨g, d, rs, R, n, rfl, gr, good, le14, hd, ap, q⟩ := h
   have hu := hu_of hr
   refine ⟨_, qac (qao (i := 3) scGive.nd rfl (Or.inl rfl) (qck qad))
     (qac (qao (i := 4) scGive.nd rfl (Or.inl rfl) (je_f hR GR hr (by rfl) (qaa (jv 0) (qaa (jv 1) (qaa (jv 2) qad)))))
     (qac (js_while PassesOwn.never (qak op_gt (qan qas (by rfl) B.len boot_len (qaa (jv 4) qad)) qag (nomark _))
       (qac (qbf PassesOwn.never rfl (qar (jv 4)) (qaj (i := 5) scGive.nd rfl (Or.inl rfl)) (qae (qbi hu (jv 1) (jv 5) (jv 2) rfl)))
       (qac (qbp (je_bm PySem.F.plainAttrs_list PySem.F.slot_list_append PySem.F.type_list_append mt_append (jv 3) (qaa (jv 4) qad)))
       (qae (qao (i := 4) scGive.nd rfl (Or.inl rfl) (je_f hR GR hr (by rfl) (qaa (jv 0) (qaa (jv 1) (qaa (jv 2) qad)))))))))
     (qae (qal (jv 3))))), ?_⟩
   refine ⟨by show 0 <= sizeLine; decide, fun lr hlr => ?_⟩
   have sr : Same H (upd H lr (.lst [])) := qaf hlr
   refine ⟨_, rfl, _, rfl, _, rfl, g, d, rs, fOf R, n, rfl, gr.mono sr, good, le14, hd.mono sr, fun H1 l1 s1 hl1 hl1' => ?_⟩
   obtain ⟨kv0, hd0⟩ := hd.isd
   have nrd : lr ≠ d := fun e => by rw [e, hd0] at hlr; cases hlr
   refine while_by (fun σ H' => ∃ (v5 : Option V) (l : Addr) (ps : List Addr) (ls : List (List Str)), σ = [some (.ref g), some (.ref d), some (.int (n : Nat)), some (.ref lr), some (.ref l), v5] /\ Fr H d H' /\ H' lr = some (.lst (ps.map V.ref)) /\ RndsAt H' ps ls ∧
       NumAt (rs.map (·.1)) H' d (fOf (R ++ ls.map fun x => (n, x))) /\ H' l = some (.lst ((rndB rs (fOf (R ++ ls.map fun x => (n, x))) n).map V.str)) /\ (∀ R', Give (gOf rs) (rs.map (·.1)) n (R ++ ls.map fun x => (n, x)) R' -> Give (gOf rs) (rs.map (·.1)) n R R') /\ l ≠ lr /\ (∀ p ∈ ps, p ≠ lr) /\ H l = none /\ (∀ p ∈ ps, H p = none) /\ ls.length + bareN rs (fOf (R ++ ls.map fun x => (n, x))) <= 14)
     (fun _ H' => bareH (rs.map (·.1)) H' d)
     ⟨none, l1, [], [], rfl, fun b u hb _ => s1 _ _ (sr _ _ hb), s1 _ _ qab, .nil, ?_, ?_, ?_, (fun e => by rw [e, qab] at hl1; cases hl1), fun p h => (nomatch h), qbm sr hl1, fun p h => (nomatch h), ?_⟩ ?_ ?_
   . have := (hd.mono sr).mono s1
     simpa using this
   . simpa using hl1'
   . intro R' h
     simpa using h
   . show 0 + _ <= 14
     rw [Nat.zero_add]
     refine Nat.le_trans (List.length_filter_le _ _) ?_
     rw [List.length_map]
     exact le14
   . rintro σ H' ⟨v5, l, ps, ls, rfl, fr, hlr', rnds, num, hl, gv, nl, np, l0, p0, bd⟩
     have grH : GrAt CG H' g rs := gr.fr ⟨kv0, hd0⟩ ap fr
     obtain ⟨kv1, hd1⟩ := num.isd
     generalize hR1 : R ++ ls.map (fun x => (n, x)) = R1 at *
     refine ⟨_, rfl, l, _, rfl, .inl (.of hl), _, _, rfl, rfl, _, rfl, ?_⟩
     rw [List.length_map]
     generalize hns : rndB rs (fOf R1) n = ns at *
     have rnd : Rnd (gOf rs) (rs.map (·.1)) R1 n ns := hns ▸ rnd_rnd rs R1 n
     have nsN : ∀ z ∈ ns, z ∈ rs.map (·.1) /\ fOf R1 z = none := fun z hz => let ⟨a, b, _⟩ := (rnd.iff z).mp hz; ⟨a, b⟩
     have nsnd : ns.Nodup := by
       rw [← hns]
       exact good.nd.sublist (List.filter_sublist.trans List.filter_sublist)
     have nslen : ns.length <= 14 := by
       have := len_sub nsnd fun z hz => (nsN z hz).1
       rw [List.length_map] at this
       omega
     cases c : ns with
     | nil =>
       subst c
       refine qcx (by decide) ?_
       refine ⟨_, rfl, ?_⟩
       have := gv R1 (.stop rnd)
       rw [← hR1] at this num
       exact q H' lr ps ls hlr hlr' rnds p0 num this fr
     | cons z0 rest =>
       have ne : ns ≠ [] := by rw [c]; simp
       rw [← c]
       clear c
       refine iteT_of (decide_eq_true (by have := List.length_pos_iff.mpr ne; show (0 : Int) < (ns.length : Int); omega)) ?_
       have nld : l ≠ d := fun e => by rw [e, hd1] at hl; cases hl
       refine ⟨_, rfl, l, rfl, ⟨_, .of hl⟩, ?_⟩
       refine qbh (K := K) (a := l) (xs := ns.map V.str) (fun i σ' G' => ∃ v5, σ' = [some (.ref g), some (.ref d), some (.int (n : Nat)), some (.ref lr), some (.ref l), v5] /\ NumAt (rs.map (·.1)) G' d (gave (fOf R1) n (ns.take i)) /\ Fr H' d G')
         ⟨v5, rfl, num.congr fun z => by unfold gave; rw [List.take_zero, if_neg (by simp)], Fr.refl⟩ (fun i σ' G' _ ⟨_, _, _, f⟩ => .of (f _ _ hl nld)) ?_ ?_
       . rintro i y σ' G' hy ⟨v5', rfl, numG, frG⟩
         obtain ⟨z, ez, hz, rfl⟩ := strs_at hy
         have il := (List.getElem?_eq_some_iff.mp ez).1
         have nt : z ∉ ns.take i := fun m => by
           obtain ⟨j, hj⟩ := List.getElem?_of_mem m
           rw [List.getElem?_take] at hj
           split at hj
           . have h1 := (List.getElem?_eq_some_iff.mp hj)
             have h2 := (List.getElem?_eq_some_iff.mp ez)
             have := nd_inj nsnd (h1.2.trans h2.2.symm)
             omega
           . cases hj
         obtain ⟨H2, put, num2, o2, e2⟩ := numG.put (n := n) (nsN z hz).1 (by unfold gave; rw [if_neg nt]; exact (nsN z hz).2) (by rw [List.length_map]; exact le14)
         refine ⟨_, rfl, _, rfl, _, rfl, d, H2, rfl, put, _, rfl, num2.congr fun y => ?_, ?_⟩
         . unfold gave
           rw [List.take_add_one, ez]
           by_cases e : y = z
           . subst e; rw [if_pos rfl, if_pos (by simp)]
           . rw [if_neg e]
             by_cases m : y ∈ ns.take i
             . rw [if_pos m, if_pos (List.mem_append_left _ m)]
             . rw [if_neg m, if_neg (by simp [m, e])]
         . rw [e2]
           exact frG.at_d
       . rintro σ' G' ⟨v5', rfl, numG, frG⟩
         rw [List.length_map, List.take_of_length_le (Nat.le_refl _)] at numG
         have numG := numG.congr (gave_fOf fun z hz => (nsN z hz).2)
         have lrG := frG _ _ hlr' nrd
         have lG := frG _ _ hl nld
         have rG := rnds.fr hd1 frG
         have fr2 := fr.trans frG
         have blt := bare_lt (n := n) nsN ne
         refine ⟨_, rfl, .inl ⟨rfl, _, .of lrG⟩, _, rfl, lr, _, _, rfl, rfl, lrG, by rw [List.length_map, rnds.1]; exact small1000 (by omega), ?_⟩
         have e5 : ps.map V.ref ++ [V.ref l] = (ps ++ [l]).map V.ref := by rw [List.map_append]; rfl
         rw [e5]
         have fr3 : Fr H d (upd G' lr (.lst ((ps ++ [l]).map V.ref))) := fr2.own hlr
         have r3 : RndsAt (upd G' lr (.lst ((ps ++ [l]).map V.ref))) (ps ++ [l]) (ls ++ [ns]) := by
           refine RndsAt.snoc ⟨rG.1, fun i p x e1 e2 => ?_⟩ (by rw [qah nl]; exact lG)
           rw [qah (np p (List.mem_of_getElem? e1))]
           exact rG.2 i p x e1 e2
         have lr3 : upd G' lr (.lst ((ps ++ [l]).map V.ref)) lr = some (.lst ((ps ++ [l]).map V.ref)) := qab
         have num3 : NumAt (rs.map (·.1)) (upd G' lr (.lst ((ps ++ [l]).map V.ref))) d (fOf (R1 ++ [(n, ns)])) := ⟨let ⟨kvs, a, b⟩ := numG.at_; ⟨kvs, by rw [qah (Ne.symm nrd)]; exact a, b⟩⟩
         generalize upd G' lr (.lst ((ps ++ [l]).map V.ref)) = G3 at fr3 r3 lr3 num3 ⊢
         refine ⟨_, rfl, _, rfl, _, rfl, g, d, rs, fOf (R1 ++ [(n, ns)]), n, rfl, gr.fr ⟨kv0, hd0⟩ ap fr3, good, le14, num3, fun H4 l4 s4 hl4 hl4' => ?_⟩
         have eR : R ++ (ls ++ [ns]).map (fun x => (n, x)) = R1 ++ [(n, ns)] := by rw [rs_snoc, hR1]
         refine ⟨⟨v5', l4, ps ++ [l], ls ++ [ns], rfl, fr3.same s4, s4 _ _ lr3, r3.mono s4, ?_, ?_, ?_, (fun e => by rw [e, lr3] at hl4; cases hl4), ?_, ?_, ?_, ?_⟩, ?_⟩
         . rw [eR]; exact num3.mono s4
         . rw [eR]; exact hl4'
         . rw [eR]; exact fun R' h => gv R' (.more rnd ne h)
         . intro p hp
           rcases List.mem_append.mp hp with hp | hp
           . exact np p hp
           . rw [List.mem_singleton.mp hp]; exact nl
         . obtain ⟨kv3, hd3⟩ := num3.isd
           exact fr3.fresh hd3 hl4
         . intro p hp
           rcases List.mem_append.mp hp with hp | hp
           . exact p0 p hp
           . rw [List.mem_singleton.mp hp]; exact l0
         . rw [eR, List.length_append, List.length_singleton]
           omega
         . rw [(num3.mono s4).bare, num.bare]
           exact blt
   . rintro σ H' Q Q' h ⟨v, e, p, ys, e2, h1, i, j, e3, e4, b, e5, h2⟩
     exact ⟨v, e, p, ys, e2, h1, i, j, e3, e4, b, e5, h _ _ h2⟩
end
end Rh
set_option Elab.async false
set_option linter.all false
set_option maxRecDepth 100000
set_option maxHeartbeats 4000000
namespace Rh
open PySem L2 PyProof.Rows MLab
theorem give_len {G : Str -> List Str} {N : List Str} {n : Nat} {R R' : Rs Str} (h : Give G N n R R') : (R' = R /\ Rnd G N R n []) ∨ R.length < R'.length := by
 induction h with
 | stop r => exact .inl ⟨rfl, r⟩
 | more r ne k ih =>
   right
   rcases ih with ⟨e, _⟩ | lt
   . rw [e, List.length_append]; exact Nat.lt_succ_self _
   . rw [List.length_append] at lt
     exact Nat.lt_of_succ_lt lt
theorem give_stop {G : Str -> List Str} {N : List Str} {n : Nat} {R : Rs Str} (h : Give G N n R R) : Rnd G N R n [] := by
 rcases give_len h with ⟨_, r⟩ | lt
 . exact r
 . exact absurd lt (Nat.lt_irrefl _)
structure Ord (N : List Str) (R : Rs Str) : Prop where
 sub : ∀ r ∈ R, ∀ z ∈ r.2, z ∈ N
 dis : R.Pairwise fun r r' => ∀ z ∈ r.2, z ∉ r'.2
 ne : ∀ r ∈ R, r.2 ≠ []
 srt : ∀ r ∈ R, r.2.Sublist N
theorem Ord.nil {N : List Str} : Ord N [] := ⟨fun _ h => (nomatch h), List.Pairwise.nil, fun _ h => (nomatch h), fun _ h => (nomatch h)⟩
theorem Ord.more {G : Str -> List Str} {N : List Str} {R : Rs Str} {n : Nat} {ns : List Str} (o : Ord N R) (r : Rnd G N R n ns) (ne : ns ≠ []) : Ord N (R ++ [(n, ns)]) := by
 refine ⟨fun x hx z hz => ?_, List.pairwise_append.mpr ⟨o.dis, List.pairwise_singleton _ _, fun a ha b hb z hz hb' => ?_⟩, fun x hx => ?_, fun x hx => ?_⟩
 . rcases List.mem_append.mp hx with hx | hx
   . exact o.sub x hx z hz
   . rw [List.mem_singleton.mp hx] at hz
     exact ((r.iff z).mp hz).1
 . rw [List.mem_singleton.mp hb] at hb'
   exact fOf_mem.mp ((r.iff z).mp hb').2.1 a ha hz
 . rcases List.mem_append.mp hx with hx | hx
   . exact o.ne x hx
   . rw [List.mem_singleton.mp hx]; exact ne
 . rcases List.mem_append.mp hx with hx | hx
   . exact o.srt x hx
   . rw [List.mem_singleton.mp hx]; exact r.sub
theorem give_ord {G : Str -> List Str} {N : List Str} {n : Nat} {R R' : Rs Str} (h : Give G N n R R') : Ord N R -> Ord N R' := by
 induction h with
 | stop r => exact id
 | more r ne k ih => exact fun o => ih (o.more r ne)
theorem all_ord {G : Str -> List Str} {N : List Str} {n : Nat} {R R' : Rs Str} (h : All G N n R R') : Ord N R -> Ord N R' := by
 induction h with
 | stop r => exact id
 | more g ne k ih => exact fun o => ih (give_ord g o)
theorem give_bare {rs : Rws} {n : Nat} {R R' : Rs Str} (h : Give (gOf rs) (rs.map (·.1)) n R R') : bareN rs (fOf R') <= bareN rs (fOf R) /\ (R' ≠ R -> bareN rs (fOf R') < bareN rs (fOf R)) := by
 induction h with
 | stop r => exact ⟨Nat.le_refl _, fun e => absurd rfl e⟩
 | more r ne k ih =>
   have := bare_lt (fun z hz => let ⟨a, b, _⟩ := (r.iff z).mp hz; ⟨a, b⟩) ne (n := n) (rs := rs)
   exact ⟨by omega, fun _ => by omega⟩
theorem ord_len {N : List Str} : ∀ {R : Rs Str}, Ord N R -> R.length <= N.length := fun {R} o => by
 have key : ∀ R : Rs Str, (R.Pairwise fun r r' => ∀ z ∈ r.2, z ∉ r'.2) -> (∀ r ∈ R, r.2 ≠ []) -> ∃ zs : List Str, zs.length = R.length /\ zs.Nodup /\ ∀ z ∈ zs, ∃ r ∈ R, z ∈ r.2 := by
   intro R
   induction R with
   | nil => exact fun _ _ => ⟨[], rfl, List.nodup_nil, fun z h => (nomatch h)⟩
   | cons r R ih =>
     intro p ne
     obtain ⟨zs, l, nd, sub⟩ := ih (List.pairwise_cons.mp p).2 (fun x hx => ne x (List.mem_cons_of_mem _ hx))
     obtain ⟨z, t, e⟩ := List.exists_cons_of_ne_nil (ne r List.mem_cons_self)
     have hz : z ∈ r.2 := by rw [e]; exact List.mem_cons_self
     refine ⟨z :: zs, by simp [l], List.nodup_cons.mpr ⟨fun m => ?_, nd⟩, fun y hy => ?_⟩
     . obtain ⟨r', hr', hz'⟩ := sub z m
       exact (List.pairwise_cons.mp p).1 r' hr' z hz hz'
     . rcases List.mem_cons.mp hy with rfl | hy
       . exact ⟨r, List.mem_cons_self, hz⟩
       . obtain ⟨r', hr', h⟩ := sub y hy
         exact ⟨r', List.mem_cons_of_mem _ hr', h⟩
 obtain ⟨zs, l, nd, sub⟩ := key R o.dis o.ne
 rw [← l]
 exact len_sub nd fun z hz => let ⟨r, hr, h⟩ := sub z hz; o.sub r hr z h
def spGives (CG : Addr) : Sp := fun vs H Q _ => ∃ (g d : Addr) (rs : Rws), vs = [.ref g, .ref d] /\ GrAt CG H g rs /\ GoodRows rs /\ rs.length <= 14 /\ NumAt (rs.map (·.1)) H d (fOf []) /\ Apart CG H g d ∧
 ∀ H' l ps R, H l = none -> H' l = some (.lst (ps.map V.ref)) -> RndsAt H' ps (R.map (·.2)) -> NumAt (rs.map (·.1)) H' d (fOf R) -> All (gOf rs) (rs.map (·.1)) 0 [] R -> Fr H d H' -> Q (.ref l) H'
section
variable {P : Program} {w : World} {K : PySem.W.Frag} {mg : Str -> Option Value} {base : Heap}
abbrev nGives : List Str := ["ground", "numbered", "rounds", "number", "more"]
abbrev pGives : List Str := ["ground", "numbered"]
theorem scGives : FnScope nGives pGives (defScope sGives) := ⟨rfl, rfl, rfl, by decide +kernel, rfl, by decide +kernel, by decide +kernel⟩
theorem ok_gives {f fB fL fG fR fV CG : Addr} {fd fdB fdL fdG fdR fdV : FuncData} (F : Fun K "give_numbers" "give_numbers" sGives f fd) (B : Blt mg) (G : KitG mg) (T : KitP K mg) (M : GM K mg CG) (hB : Has K mg "numbers_behind" sNB pNB fB fdB) (hL : Has K mg "lacking" sLacking ["numbers"] fL fdL) (hG : Has K mg "gets_number" sGets pGets fG fdG)
   (hR : Has K mg "round_of" sRound pRound fR fdR) (hV : Has K mg "give_number" sGive pRound fV fdV) : FnOk P w K mg base CX0 7 f fd pGives (spGives CG) := by
 have GV : FnOk P w K mg base CX0 6 fV fdV pRound (spGive CG) := ok_give hV.fn B G T M hB hL hG hR
 refine F.okJ scGives (fun vs H Q E h => ?_) (fun cdv A outer s H vs Q E hr h => ?_)
 . obtain ⟨g, d, rs, rfl, _⟩ := h
   rfl
 . obtain ⟨g, d, rs, rfl, gr, good, le14, hd, ap, q⟩ := h
   have hu := hu_of hr
   refine ⟨_, qac (qao (i := 2) scGives.nd rfl (Or.inl rfl) (qck qad))
     (qac (qao (i := 3) scGives.nd rfl (Or.inl rfl) qag)
     (qac (qao (i := 4) scGives.nd rfl (Or.inl rfl) (je_f hV GV hr (by rfl) (qaa (jv 0) (qaa (jv 1) (qaa (jv 3) qad)))))
     (qac (js_while PassesOwn.never (qak op_gt (qan qas (by rfl) B.len boot_len (qaa (jv 4) qad)) qag (nomark _))
       (qac (qbp (je_bm PySem.F.plainAttrs_list PySem.F.slot_list_extend PySem.F.type_list_extend mt_extend (jv 2) (qaa (jv 4) qad)))
       (qac (js_aug (i := 3) scGives.nd rfl (Or.inl rfl) qag ip_add)
       (qae (qao (i := 4) scGives.nd rfl (Or.inl rfl) (je_f hV GV hr (by rfl) (qaa (jv 0) (qaa (jv 1) (qaa (jv 3) qad)))))))))
     (qae (qal (jv 2)))))), ?_⟩
   refine ⟨by show 0 <= sizeLine; decide, fun lr hlr => ?_⟩
   have sr : Same H (upd H lr (.lst [])) := qaf hlr
   obtain ⟨kv0, hd0⟩ := hd.isd
   have nrd : lr ≠ d := fun e => by rw [e, hd0] at hlr; cases hlr
   have apm : ∀ {H' : Hp}, Fr H d H' -> Apart CG H' g d := fun fr dx lo rd h => by
     obtain ⟨dx', lo', rd', kvs', h1, _⟩ := gr
     have := fr _ _ h1 (fun e => by rw [e, hd0] at h1; cases h1)
     rw [h] at this
     cases this
     exact ap _ _ _ h1
   have fr0 : Fr H d (upd H lr (.lst [])) := Fr.refl.own hlr
   refine ⟨_, rfl, _, rfl, _, rfl, g, d, rs, [], 0, rfl, gr.mono sr, good, le14, hd.mono sr, apm fr0, fun H1 l1 ps1 ls1 hl1 hl1' rn1 pn1 num1 gv1 fr1 => ?_⟩
   refine while_by (fun σ H' => ∃ (l : Addr) (n : Nat) (ps ps1 : List Addr) (R : Rs Str) (ls : List (List Str)), σ = [some (.ref g), some (.ref d), some (.ref lr), some (.int (n : Nat)), some (.ref l)] /\ Fr H d H' /\ H' lr = some (.lst (ps.map V.ref)) /\ RndsAt H' ps (R.map (·.2)) /\ H' l = some (.lst (ps1.map V.ref)) /\ RndsAt H' ps1 ls ∧
       NumAt (rs.map (·.1)) H' d (fOf (R ++ ls.map fun x => (n, x))) /\ Give (gOf rs) (rs.map (·.1)) n R (R ++ ls.map fun x => (n, x)) /\ (∀ R', All (gOf rs) (rs.map (·.1)) n R R' -> All (gOf rs) (rs.map (·.1)) 0 [] R') /\ l ≠ lr /\ (∀ p ∈ ps, p ≠ lr) /\ (∀ p ∈ ps1, p ≠ lr) /\ Ord (rs.map (·.1)) R)
     (fun σ H' => bareH (rs.map (·.1)) H' d * 2 + (match σ with | [_, _, _, _, some (.ref l)] => (match H' l with | some (.lst (_ :: _)) => 1 | _ => 0) | _ => 0))
     ⟨l1, 0, [], ps1, [], ls1, rfl, fr0.trans fr1, fr1 _ _ qab nrd, .nil, hl1', rn1, num1, gv1, fun R' h => h, (fun e => by rw [e, qab] at hl1; cases hl1), fun p h => (nomatch h), ?_, .nil⟩ ?_ ?_
   . intro p hp e
     have := pn1 p hp
     rw [e, qab] at this
     cases this
   . rintro σ H' ⟨l, n, ps, ps1, R, ls, rfl, fr, hlr', rnds, hl, rn, num, gv, al, nl, np, np1, od⟩
     obtain ⟨kv1, hd1⟩ := num.isd
     have od' := give_ord gv od
     have ol := ord_len od'
     rw [List.length_append, List.length_map, List.length_map] at ol
     refine ⟨_, rfl, l, _, rfl, .inl (.of hl), _, _, rfl, rfl, _, rfl, ?_⟩
     rw [List.length_map]
     cases c : ls with
     | nil =>
       subst c
       have e0 : ps1 = [] := List.eq_nil_of_length_eq_zero rn.1
       subst e0
       rw [List.map_nil, List.append_nil] at gv num
       refine qcx (by decide) ⟨_, rfl, ?_⟩
       exact q H' lr ps R hlr hlr' rnds num (al R (.stop (give_stop gv))) fr
     | cons x0 rest =>
       have ne : ls ≠ [] := by rw [c]; simp
       clear c
       have lp : ps1.length = ls.length := rn.1
       have pos := List.length_pos_iff.mpr ne
       refine iteT_of (decide_eq_true (by show (0 : Int) < (ps1.length : Int); omega)) ?_
       refine ⟨_, rfl, .inl ⟨rfl, _, .of hlr'⟩, _, rfl, lr, l, _, _, rfl, rfl, hlr', hl, ?_, ?_⟩
       . rw [List.length_map, List.length_map, rnds.1, List.length_map, lp]
         exact Nat.le_of_lt (small1000 (by omega))
       . have e5 : ps.map V.ref ++ ps1.map V.ref = (ps ++ ps1).map V.ref := by rw [List.map_append]
         rw [e5]
         have fr3 : Fr H d (upd H' lr (.lst ((ps ++ ps1).map V.ref))) := fr.own hlr
         have lr3 : upd H' lr (.lst ((ps ++ ps1).map V.ref)) lr = some (.lst ((ps ++ ps1).map V.ref)) := qab
         have r3 : RndsAt (upd H' lr (.lst ((ps ++ ps1).map V.ref))) (ps ++ ps1) ((R ++ ls.map fun x => (n, x)).map (·.2)) := by
           have ee : (R ++ ls.map fun x => (n, x)).map (·.2) = R.map (·.2) ++ ls := by
             rw [List.map_append, List.map_map]
             congr 1
             exact List.map_id ls
           rw [ee]
           refine RndsAt.app ⟨rnds.1, fun i p x e1 e2 => ?_⟩ ⟨rn.1, fun i p x e1 e2 => ?_⟩
           . rw [qah (np p (List.mem_of_getElem? e1))]
             exact rnds.2 i p x e1 e2
           . rw [qah (np1 p (List.mem_of_getElem? e1))]
             exact rn.2 i p x e1 e2
         have num3 : NumAt (rs.map (·.1)) (upd H' lr (.lst ((ps ++ ps1).map V.ref))) d (fOf (R ++ ls.map fun x => (n, x))) := ⟨let ⟨kvs, a, b⟩ := num.at_; ⟨kvs, by rw [qah (Ne.symm nrd)]; exact a, b⟩⟩
         have neR : R ++ ls.map (fun x => (n, x)) ≠ R := fun e => by
           have := congrArg List.length e
           rw [List.length_append, List.length_map] at this
           omega
         generalize R ++ ls.map (fun x => (n, x)) = R1 at *
         generalize upd H' lr (.lst ((ps ++ ps1).map V.ref)) = G3 at fr3 r3 lr3 num3 ⊢
         obtain ⟨kv3, hd3⟩ := num3.isd
         refine ⟨_, rfl, _, _, rfl, rfl, ?_⟩
         refine ⟨_, rfl, _, rfl, _, rfl, g, d, rs, R1, n + 1, rfl, gr.fr ⟨kv0, hd0⟩ ap fr3, good, le14, num3, apm fr3, fun H4 l4 ps4 ls4 hl4 hl4' rn4 pn4 num4 gv4 fr4 => ?_⟩
         refine ⟨⟨l4, n + 1, ps ++ ps1, ps4, R1, ls4, rfl, fr3.trans fr4, fr4 _ _ lr3 nrd, r3.fr hd3 fr4, hl4', rn4, num4, gv4, fun R' h => al R' (.more gv neR h), (fun e => by rw [e, lr3] at hl4; cases hl4), ?_, ?_, od'⟩, ?_⟩
         . intro p hp
           rcases List.mem_append.mp hp with hp | hp
           . exact np p hp
           . exact np1 p hp
         . intro p hp e
           have := pn4 p hp
           rw [e, lr3] at this
           cases this
         . show bareH (rs.map (·.1)) H4 d * 2 + (match H4 l4 with | some (.lst (_ :: _)) => 1 | _ => 0) < bareH (rs.map (·.1)) H' d * 2 + (match H' l with | some (.lst (_ :: _)) => 1 | _ => 0)
           have gb := give_bare gv4
           rw [num4.bare, num.bare, hl4', hl]
           obtain ⟨p1, t1, e1⟩ := List.exists_cons_of_length_pos (by omega : 0 < ps1.length)
           rw [e1]
           show _ < bareN rs (fOf R1) * 2 + 1
           cases ls4 with
           | nil =>
             have e0 : ps4 = [] := List.eq_nil_of_length_eq_zero rn4.1
             rw [e0]
             show _ + 0 < _
             have := gb.1
             omega
           | cons x4 t4 =>
             have := gb.2 fun e => by
               have := congrArg List.length e
               rw [List.length_append, List.length_map] at this
               simp at this
             have le1 : (match (some (HO.lst (ps4.map V.ref)) : Option HO) with | some (.lst (_ :: _)) => 1 | _ => 0) <= 1 := by split <;> omega
             omega
   . rintro σ H' Q Q' h ⟨v, e, p, ys, e2, h1, i, j, e3, e4, b, e5, h2⟩
     exact ⟨v, e, p, ys, e2, h1, i, j, e3, e4, b, e5, h _ _ h2⟩
end
end Rh
set_option Elab.async false
set_option linter.all false
set_option maxRecDepth 100000
set_option maxHeartbeats 4000000
namespace Rh
open PySem L2 PyProof.Rows MLab
def stpF (R : Rs Str) (i : Nat) : Str -> Option Nat := fun z => (fOf (R.take i) z).map fun _ => sOf R z
theorem sOf_at {N : List Str} {R : Rs Str} (o : Ord N R) {i : Nat} {r : Nat × List Str} {z : Str} (hr : R[i]? = some r) (hz : z ∈ r.2) : sOf R z = i := by
 obtain ⟨hi, er⟩ := List.getElem?_eq_some_iff.mp hr
 unfold sOf
 rw [List.findIdx_eq hi]
 refine ⟨by rw [er]; exact decide_eq_true hz, fun j hj => decide_eq_false fun m => ?_⟩
 have := List.pairwise_iff_getElem.mp o.dis j i (by omega) hi hj z m
 rw [er] at this
 exact this hz
theorem stpF_new {N : List Str} {R : Rs Str} (o : Ord N R) {i : Nat} {r : Nat × List Str} {z : Str} (hr : R[i]? = some r) (hz : z ∈ r.2) : stpF R i z = none := by
 unfold stpF
 have : fOf (R.take i) z = none := fOf_mem.mpr fun x hx m => by
   obtain ⟨j, hj⟩ := List.getElem?_of_mem hx
   rw [List.getElem?_take] at hj
   split at hj
   . have h1 := sOf_at o hj m
     have h2 := sOf_at o hr hz
     omega
   . cases hj
 rw [this]
 rfl
theorem stpF_succ {N : List Str} {R : Rs Str} (o : Ord N R) {i : Nat} {r : Nat × List Str} (hr : R[i]? = some r) (z : Str) : gave (stpF R i) i r.2 z = stpF R (i + 1) z := by
 unfold gave
 by_cases c : z ∈ r.2
 . rw [if_pos c]
   have n := stpF_new o hr c
   unfold stpF at n ⊢
   have n' : fOf (R.take i) z = none := by
     cases e : fOf (R.take i) z with
     | none => rfl
     | some m => rw [e] at n; cases n
   rw [List.take_add_one, hr]
   show _ = (fOf (R.take i ++ [(r.1, r.2)]) z).map _
   rw [f_new n' c, sOf_at o hr c]
   rfl
 . rw [if_neg c]
   unfold stpF
   rw [List.take_add_one, hr]
   show _ = (fOf (R.take i ++ [(r.1, r.2)]) z).map _
   rw [fOf_snoc]
   cases fOf (R.take i) z with
   | some m => rfl
   | none =>
     show _ = Option.map _ (if z ∈ r.2 then some r.1 else none)
     rw [if_neg c]
theorem stpF_all (R : Rs Str) (z : Str) : stpF R R.length z = (fOf R z).map fun _ => sOf R z := by
 unfold stpF
 rw [List.take_of_length_le (Nat.le_refl _)]
def labT (rs : Rws) (R : Rs Str) (z : Str) : List V := match fOf R z with
 | some n => [.str "number", .int (n : Nat), .int (sOf R z : Nat)]
 | none => [.str "endless", .int (Rb.setN (nbs rs (fOf R) z) : Nat)]
structure LabsAt (H : Hp) (D : Addr) (rs : Rws) (R : Rs Str) : Prop where
 at_ : ∃ kvs : List (Key × V), H D = some (.dK kvs) /\ kvs.map (·.1) = (rs.map (·.1)).map Sum.inr /\ ∀ r ∈ rs, ∃ t, valV kvs (Sum.inr r.1 : Key) = some (.ref t) /\ H t = some (.tup (labT rs R r.1))
theorem LabsAt.mono {H H' : Hp} {D : Addr} {rs : Rws} {R : Rs Str} (h : LabsAt H D rs R) (s : Same H H') : LabsAt H' D rs R := ⟨let ⟨kvs, a, b, c⟩ := h.at_; ⟨kvs, s _ _ a, b, fun r hr => let ⟨t, u, v⟩ := c r hr; ⟨t, u, s _ _ v⟩⟩⟩
theorem sum_tri : ∀ (n : Nat) (L : List Nat), (∀ m, m <= n -> m ∈ L) -> n * (n + 1) <= 2 * L.sum
 | 0, _, _ => by simp
 | n + 1, L, h => by
   have hm := h (n + 1) (Nat.le_refl _)
   have ih := sum_tri n (L.erase (n + 1)) fun m hm' => (List.mem_erase_of_ne (by omega)).mpr (h m (by omega))
   have es : L.sum = (n + 1) + (L.erase (n + 1)).sum := by
     have := (List.perm_cons_erase hm).sum_nat
     rw [this, List.sum_cons]
   rw [es]
   have : (n + 1) * (n + 1 + 1) = n * (n + 1) + 2 * (n + 1) := by
     rw [Nat.mul_comm, ← Nat.add_mul]
   omega
theorem sum_mono {α : Type} {f g : α -> Nat} : ∀ {l : List α}, (∀ x ∈ l, f x <= g x) -> (l.map f).sum <= (l.map g).sum
 | [], _ => Nat.le_refl _
 | a :: l, h => by
   rw [List.map_cons, List.map_cons, List.sum_cons, List.sum_cons]
   have := h a List.mem_cons_self
   have := sum_mono (l := l) fun x hx => h x (List.mem_cons_of_mem _ hx)
   omega
theorem gOf_nd {rs : Rws} (hn : (rs.map (·.1)).Nodup) (z : Str) : (gOf rs z).Nodup := by
 unfold gOf
 split
 . exact hn.sublist List.filter_sublist
 . exact List.nodup_nil
theorem num_le {rs : Rws} (good : GoodRows rs) {num : Str -> Option Nat} {stp : Str -> Nat} (L : Lab (gOf rs) (· ∈ rs.map (·.1)) num stp) {x : Str} {n : Nat} (hx : x ∈ rs.map (·.1)) (e : num x = some n) : n <= 8 := by
 have h1 : ∀ m, m <= n -> m ∈ rs.map fun r => (num r.1).getD 0 := fun m hm => by
   rcases Nat.lt_or_ge m n with c | c
   . obtain ⟨y, hy, ey, _⟩ := L.n1 hx e c
     obtain ⟨r, hr, rfl⟩ := List.mem_map.mp (L.cl hx hy)
     exact List.mem_map.mpr ⟨r, hr, by rw [ey]; rfl⟩
   . have : m = n := by omega
     subst this
     obtain ⟨r, hr, rfl⟩ := List.mem_map.mp hx
     exact List.mem_map.mpr ⟨r, hr, by rw [e]; rfl⟩
 have h2 := sum_tri n _ h1
 have h3 : (rs.map fun r => (num r.1).getD 0).sum <= (rs.map fun r => r.2.length).sum := sum_mono fun r hr => by
   cases c : num r.1 with
   | none => exact Nat.zero_le _
   | some m =>
     show m <= _
     have hr' : r.1 ∈ rs.map (·.1) := List.mem_map.mpr ⟨r, hr, rfl⟩
     have : (List.range m).length <= ((gOf rs r.1).filterMap num).length := len_sub List.nodup_range fun j hj => by
       obtain ⟨y, hy, ey, _⟩ := L.n1 hr' c (List.mem_range.mp hj)
       exact List.mem_filterMap.mpr ⟨y, hy, ey⟩
     rw [List.length_range] at this
     have h4 := List.length_filterMap_le num (gOf rs r.1)
     have h5 : (gOf rs r.1).length <= r.2.length := len_sub (gOf_nd good.nd _) fun y hy => (gOf_iff good hr).mp hy
     omega
 have h4 := good.few
 rcases Nat.lt_or_ge 8 n with c | c
 . have : 9 * 10 <= n * (n + 1) := Nat.mul_le_mul c (by omega)
   omega
 . exact c
def spLabels (CG : Addr) : Sp := fun vs H Q _ => ∃ (g : Addr) (rs : Rws), vs = [.ref g] /\ GrAt CG H g rs /\ GoodRows rs /\ rs.length <= 14 ∧
 ∀ H' D R, Same H H' -> H D = none -> LabsAt H' D rs R -> All (gOf rs) (rs.map (·.1)) 0 [] R -> Q (.ref D) H'
section
variable {P : Program} {w : World} {K : PySem.W.Frag} {mg : Str -> Option Value} {base : Heap}
abbrev nLb : List Str := ["ground", "numbered", "steps", "step", "names", "name", "labels"]
theorem scLb : FnScope nLb ["ground"] (defScope sLabels) := ⟨rfl, rfl, rfl, by decide +kernel, rfl, by decide +kernel, by decide +kernel⟩
structure HasB (K : PySem.W.Frag) (mg : Str -> Option Value) : Prop where
 lack : ∃ f fd, Has K mg "lacking" sLacking ["numbers"] f fd
 seto : ∃ f fd, Has K mg "set_of" sSetOf ["numbers"] f fd
 nb : ∃ f fd, Has K mg "numbers_behind" sNB pNB f fd
 gets : ∃ f fd, Has K mg "gets_number" sGets pGets f fd
 round : ∃ f fd, Has K mg "round_of" sRound pRound f fd
 give : ∃ f fd, Has K mg "give_number" sGive pRound f fd
 gives : ∃ f fd, Has K mg "give_numbers" sGives pGives f fd
 labels : ∃ f fd, Has K mg "labels_of" sLabels ["ground"] f fd
theorem ok_labels {f CG : Addr} {fd : FuncData} (F : Fun K "labels_of" "labels_of" sLabels f fd) (B : Blt mg) (G : KitG mg) (T : KitP K mg) (M : GM K mg CG) (Y : HasB K mg) : FnOk P w K mg base CX0 8 f fd ["ground"] (spLabels CG) := by
 obtain ⟨fL, fdL, hL⟩ := Y.lack
 obtain ⟨fS, fdS, hS⟩ := Y.seto
 obtain ⟨fB, fdB, hB⟩ := Y.nb
 obtain ⟨fG, fdG, hG⟩ := Y.gets
 obtain ⟨fR, fdR, hR⟩ := Y.round
 obtain ⟨fV, fdV, hV⟩ := Y.give
 obtain ⟨fW, fdW, hW⟩ := Y.gives
 have GW : FnOk P w K mg base CX0 7 fW fdW pGives (spGives CG) := ok_gives hW.fn B G T M hB hL hG hR hV
 have GB : FnOk P w K mg base CX0 3 fB fdB pNB (spNB CG) := ok_nb hB.fn B G T M
 have GS : FnOk P w K mg base CX0 1 fS fdS ["numbers"] (spSetOf K) := ok_setof hS.fn
 obtain ⟨fC, fdC, C⟩ := M.cls
 obtain ⟨fM, fdM, hM⟩ := M.nm
 have GM : FnOk P w K mg base CX0 1 fM fdM ["self"] (spGNames CG) := ok_gnames hM.fn C G
 refine F.okJ scLb (fun vs H Q E h => ?_) (fun cdv A outer s H vs Q E hr h => ?_)
 . obtain ⟨g, rs, rfl, _⟩ := h
   rfl
 . obtain ⟨g, rs, rfl, gr, good, le14, q⟩ := h
   have hu := hu_of hr
   have r1 : Room 1 _ := hr.mono (by decide)
   have r3 : Room 3 _ := hr.mono (by decide)
   refine ⟨_, qac (qao (i := 1) scLb.nd rfl (Or.inl rfl) qch)
     (qac (qao (i := 2) scLb.nd rfl (Or.inl rfl) qch)
     (qac (qbf PassesOwn.never rfl (ji_enum (by rfl) T.enu (qaa (je_f hW GW hr (by rfl) (qaa (jv 0) (qaa (jv 1) qad))) qad)) (jg_tup rfl (qbg (qaj (i := 3) scLb.nd rfl (Or.inl rfl)) (qbg (qaj (i := 4) scLb.nd rfl (Or.inl rfl)) jgs_nil)))
       (qae (qbf PassesOwn.never rfl (qar (jv 4)) (qaj (i := 5) scLb.nd rfl (Or.inl rfl)) (qae (qbi hu (jv 2) (jv 5) (jv 3) rfl)))))
     (qac (qao (i := 6) scLb.nd rfl (Or.inl rfl) qch)
     (qac (qbf PassesOwn.never rfl (qar (je_m0 hM C.cl GM r1 (jv 0))) (qaj (i := 5) scLb.nd rfl (Or.inl rfl))
       (qae (qba (qcs (jc_din hu (jv 5) (jv 1)))
         (qae (qbi hu (jv 6) (jv 5) (qcb (qaa qat (qaa (qbd hu (jv 1) (jv 5) (fun _ _ => rfl)) (qaa (qbd hu (jv 2) (jv 5) (fun _ _ => rfl)) qad)))) rfl))
         (qae (qbi hu (jv 6) (jv 5) (qcb (qaa qat (qaa (je_f hS GS r1 (by rfl) (qaa (je_f hB GB r3 (by rfl) (qaa (jv 0) (qaa (jv 1) (qaa (jv 5) qad)))) qad)) qad))) rfl)))))
     (qae (qal (jv 6))))))), ?_⟩
   intro d hd st hst
   have s1 : Same H (upd H d (.dK [])) := qaf hd
   have s2 : Same H (upd (upd H d (.dK [])) st (.dK [])) := s1.trans (qaf hst)
   have hd2 : upd (upd H d (.dK [])) st (.dK []) d = some (.dK []) := qai qab hst
   have hst2 : upd (upd H d (.dK [])) st (.dK []) st = some (.dK []) := qab
   have nds : d ≠ st := fun e => by rw [← e, qab] at hst; cases hst
   have hs0 : H st = none := qbm s1 hst
   generalize upd (upd H d (.dK [])) st (.dK []) = H2 at s2 hd2 hst2
   have num0 : ∀ {a : Addr}, H2 a = some (.dK []) -> NumAt (rs.map (·.1)) H2 a (fOf []) := fun h => ⟨[], h, fun z => rfl, List.nodup_nil, fun k h => (nomatch h)⟩
   have ap : ∀ {H' : Hp} {a : Addr}, Same H H' -> H a = none -> Apart CG H' g a := fun sH ha dx lo rd h => by
     obtain ⟨dx', lo', rd', kvs', h1, _, h3, _⟩ := gr
     have := sH _ _ h1
     rw [h] at this
     cases this
     exact fun e => by rw [e, ha] at h3; cases h3
   refine ⟨_, rfl, _, rfl, g, d, rs, rfl, gr.mono s2, good, le14, num0 hd2, ap s2 hd, fun H3 l3 ps R hl3 hl3' rnds num all fr3 => ?_⟩
   have od := all_ord all .nil
   have oL := ord_len od
   rw [List.length_map] at oL
   have s3 : Same H H3 := fun b u h => fr3 b u (s2 _ _ h) (qam h hd)
   have st3 : H3 st = some (.dK []) := fr3 _ _ hst2 (Ne.symm nds)
   obtain ⟨kvd, hd3⟩ := num.isd
   have nl3 : l3 ≠ st := fun e => by rw [e, hst2] at hl3; cases hl3
   have L := labs (gOf_cl good.nd) all
   refine ⟨l3, rfl, ⟨_, .of hl3'⟩, ?_⟩
   refine for_enum (K := K) (a := l3) (xs := ps.map V.ref) (fun i σ' G' => ∃ v3 v4 v5, σ' = [some (.ref g), some (.ref d), some (.ref st), v3, v4, v5, none] /\ NumAt (rs.map (·.1)) G' st (stpF R i) /\ Fr H3 st G')
     ⟨none, none, none, rfl, ⟨[], st3, fun z => rfl, List.nodup_nil, fun k h => (nomatch h)⟩, Fr.refl⟩ (fun i σ' G' _ ⟨_, _, _, _, _, f⟩ => .of (f _ _ hl3' nl3)) ?_ ?_
   . rintro i x σ' G' p hx hp ⟨v3, v4, v5, rfl, numS, frS⟩
     rw [List.getElem?_map] at hx
     cases ep : ps[i]? with
     | none => rw [ep] at hx; cases hx
     | some pi =>
       rw [ep] at hx
       obtain rfl := (Option.some.inj hx).symm
       have li : i < R.length := by
         have := (List.getElem?_eq_some_iff.mp ep).1
         have := rnds.1
         rw [List.length_map] at this
         omega
       obtain ⟨r, er⟩ : ∃ r, R[i]? = some r := ⟨_, List.getElem?_eq_getElem li⟩
       have hpi := rnds.2 i pi r.2 ep (by rw [List.getElem?_map, er]; rfl)
       have npi : pi ≠ st := fun e => by rw [e, st3] at hpi; cases hpi
       have sp : Same G' (upd G' p (.tup [.int (i : Nat), V.ref pi])) := qaf hp
       have frp : Fr H3 st (upd G' p (.tup [.int (i : Nat), V.ref pi])) := frS.same sp
       have rN : ∀ z ∈ r.2, z ∈ rs.map (·.1) := od.sub r (List.mem_of_getElem? er)
       refine ⟨p, _, rfl, .of qab, rfl, _, _, rfl, _, _, rfl, rfl, ?_⟩
       have hpp : ∀ {G2 : Hp}, Fr H3 st G2 -> G2 pi = some (.lst (r.2.map V.str)) := fun f => f _ _ hpi npi
       have num1 := numS.mono sp
       generalize upd G' p (.tup [.int (i : Nat), V.ref pi]) = G1 at sp frp num1
       refine ⟨_, rfl, pi, rfl, ⟨_, .of (hpp frp)⟩, ?_⟩
       have rnd : r.2.Nodup := good.nd.sublist (od.srt r (List.mem_of_getElem? er))
       refine qbh (K := K) (a := pi) (xs := r.2.map V.str) (fun j σ'' G2 => ∃ v5, σ'' = [some (.ref g), some (.ref d), some (.ref st), some (.int (i : Nat)), some (.ref pi), v5, none] /\ NumAt (rs.map (·.1)) G2 st (gave (stpF R i) i (r.2.take j)) /\ Fr H3 st G2)
         ⟨v5, rfl, num1.congr fun z => by unfold gave; rw [List.take_zero, if_neg (by simp)], frp⟩ (fun j σ'' G2 _ ⟨_, _, _, f⟩ => .of (hpp f)) ?_ ?_
       . rintro j y σ'' G2 hy ⟨v5', rfl, numG, frG⟩
         obtain ⟨z, ez, hz, rfl⟩ := strs_at hy
         by_cases nt : z ∈ r.2.take j
         . exfalso
           obtain ⟨j', hj⟩ := List.getElem?_of_mem nt
           rw [List.getElem?_take] at hj
           split at hj
           . have h1 := (List.getElem?_eq_some_iff.mp hj)
             have h2 := (List.getElem?_eq_some_iff.mp ez)
             have := nd_inj rnd (h1.2.trans h2.2.symm)
             omega
           . cases hj
         . obtain ⟨H4, put, num4, o4, e4⟩ := numG.put (n := i) (rN z hz) (by unfold gave; rw [if_neg nt]; exact stpF_new od er hz) (by rw [List.length_map]; exact le14)
           refine ⟨_, rfl, _, rfl, _, rfl, st, H4, rfl, put, _, rfl, num4.congr fun y => ?_, ?_⟩
           . unfold gave
             rw [List.take_add_one, ez]
             by_cases e : y = z
             . subst e; rw [if_pos rfl, if_pos (by simp)]
             . rw [if_neg e]
               by_cases m : y ∈ r.2.take j
               . rw [if_pos m, if_pos (List.mem_append_left _ m)]
               . rw [if_neg m, if_neg (by simp [m, e])]
           . rw [e4]
             exact frG.at_d
       . rintro σ'' G2 ⟨v5', rfl, numG, frG⟩
         rw [List.length_map, List.take_of_length_le (Nat.le_refl _)] at numG
         exact ⟨_, _, _, rfl, numG.congr (stpF_succ od er), frG⟩
   . rintro σ' G' ⟨v3, v4, v5, rfl, numS, frS⟩
     rw [List.length_map, rnds.1, List.length_map] at numS
     have numS := numS.congr (stpF_all R)
     have sG : Same H G' := fun b u h => frS _ _ (s3 _ _ h) (qam h hs0)
     have numD : NumAt (rs.map (·.1)) G' d (fOf R) := num.fr frS nds
     intro D hD
     have sD : Same G' (upd G' D (.dK [])) := qaf hD
     have hD0 : H D = none := qbm sG hD
     have hDD : upd G' D (.dK []) D = some (.dK []) := qab
     generalize upd G' D (.dK []) = G1 at sD hDD
     obtain ⟨dx, fs, hg, l1, l2⟩ := ((gr.mono sG).mono sD).ins
     refine ⟨_, rfl, g, dx, fs, rfl, hg, l1, g, rs, rfl, (gr.mono sG).mono sD, fun ln hln => ⟨ln, rfl, ⟨_, .of qab⟩, ?_⟩⟩
     have sL : Same G1 (upd G1 ln (.lst ((rs.map (·.1)).map V.str))) := qaf hln
     have hL2 : upd G1 ln (.lst ((rs.map (·.1)).map V.str)) ln = some (.lst ((rs.map (·.1)).map V.str)) := qab
     have nDl : ln ≠ D := fun e => by rw [e, hDD] at hln; cases hln
     generalize upd G1 ln (.lst ((rs.map (·.1)).map V.str)) = G2 at sL hL2
     have sG2 : Same G' G2 := sD.trans sL
     refine qbh (K := K) (a := ln) (xs := (rs.map (·.1)).map V.str) (fun i σ' G3 => ∃ v5 kvs, σ' = [some (.ref g), some (.ref d), some (.ref st), v3, v4, v5, some (.ref D)] /\ Fr G2 D G3 /\ G3 D = some (.dK kvs) /\ kvs.map (·.1) = ((rs.map (·.1)).take i).map Sum.inr ∧
         ∀ r ∈ rs.take i, ∃ t, valV kvs (Sum.inr r.1 : Key) = some (.ref t) /\ G3 t = some (.tup (labT rs R r.1)))
       ⟨v5, [], rfl, Fr.refl, sL _ _ hDD, rfl, fun r h => (nomatch h)⟩ (fun i σ' G3 _ ⟨_, _, _, f, _⟩ => .of (f _ _ hL2 nDl)) ?_ ?_
     . rintro i y σ' G3 hy ⟨v5', kvs, rfl, fr, hDk, ek, hv⟩
       obtain ⟨r, er, hr', rfl⟩ := names_at hy
       have hi := (List.getElem?_eq_some_iff.mp er).1
       have s23 : Same G' G3 := fun b u h => fr _ _ (sG2 _ _ h) (qam h hD)
       have sA := sG.trans s23
       have nm := numD.mono s23
       have ns := numS.mono s23
       have lk : kvs.length = i := by
         have := congrArg List.length ek
         rw [List.length_map, List.length_map, List.length_take, List.length_map] at this
         omega
       have eN : (rs.map (·.1))[i]? = some r.1 := by rw [List.getElem?_map, er]; rfl
       have new : valV kvs (Sum.inr r.1 : Key) = none := valV_out (by rw [ek]; exact not_taken good.nd eN)
       have fin : ∀ (G4 : Hp) (t : Addr), Fr G2 D G4 -> G4 D = some (.dK kvs) -> Same G3 G4 -> G4 t = some (.tup (labT rs R r.1)) -> ∃ H5, DPut G4 D (.str r.1) (.ref t) H5 ∧
           ∃ v5 kvs, [some (V.ref g), some (.ref d), some (.ref st), v3, v4, some (.str r.1), some (.ref D)] = [some (.ref g), some (.ref d), some (.ref st), v3, v4, v5, some (.ref D)] /\ Fr G2 D H5 /\ H5 D = some (.dK kvs) /\ kvs.map (·.1) = ((rs.map (·.1)).take (i + 1)).map Sum.inr ∧
             ∀ r ∈ rs.take (i + 1), ∃ t, valV kvs (Sum.inr r.1 : Key) = some (.ref t) /\ H5 t = some (.tup (labT rs R r.1)) := fun G4 t f4 h4 s4 ht => by
         refine ⟨_, DPut.k (k := (Sum.inr r.1 : Key)) h4 (small1000 (by omega)), some (.str r.1), putK kvs (Sum.inr r.1) (.ref t), rfl, f4.at_d, qab, ?_, fun r2 hr2 => ?_⟩
         . rw [putK_new _ new, List.map_append, ek, List.take_add_one, eN, List.map_append]
           rfl
         . have tD : ∀ {b : Addr} {xs : List V}, G4 b = some (.tup xs) -> b ≠ D := fun hb e => by rw [e, h4] at hb; cases hb
           rw [List.take_add_one, er] at hr2
           rcases List.mem_append.mp hr2 with h | h
           . obtain ⟨t2, a, b⟩ := hv r2 h
             have ne : r2.1 ≠ r.1 := fun e => by rw [e, new] at a; cases a
             refine ⟨t2, ?_, ?_⟩
             . rw [qbx, if_neg (fun q => ne (Sum.inr.inj q))]; exact a
             . rw [qah (tD (s4 _ _ b))]; exact s4 _ _ b
           . have : r2 = r := by simpa using h
             subst this
             refine ⟨t, ?_, ?_⟩
             . rw [qbx, if_pos rfl]
             . rw [qah (tD ht)]; exact ht
       refine ⟨_, rfl, _, rfl, d, _, rfl, nm.get r.1, _, rfl, ?_⟩
       cases c : fOf R r.1 with
       | some n =>
         have g1 := nm.get r.1
         have g2 := ns.get r.1
         rw [c] at g1 g2
         refine iteT ⟨_, rfl, _, rfl, d, _, rfl, g1, _, rfl, _, rfl, st, _, rfl, g2, by show 3 <= sizeLine; decide, fun t ht => ?_⟩
         have el : labT rs R r.1 = [.str "number", .int (n : Nat), .int (sOf R r.1 : Nat)] := by unfold labT; rw [c]
         obtain ⟨H5, put, k⟩ := fin (upd G3 t (.tup [.str "number", .int (n : Nat), .int (sOf R r.1 : Nat)])) t (fr.same (qaf ht)) (qai hDk ht) (qaf ht) (by rw [el]; exact qab)
         exact ⟨_, rfl, _, rfl, D, H5, rfl, put, k⟩
       | none =>
         have gN := L
         refine iteF ⟨_, rfl, _, rfl, _, rfl, g, d, rs, r.1, fOf R, rfl, gr.mono sA, good, le14, List.mem_map.mpr ⟨r, hr', rfl⟩, nm, fun H4 l4 s4 hl4 hl4' => ?_⟩
         refine ⟨l4, _, rfl, .of hl4', fun x hx => ?_, by show 2 <= sizeLine; decide, fun t ht => ?_⟩
         . obtain ⟨y, hy, ey⟩ := qcj.mp hx
           have := num_le good L (gOf_cl good.nd _ (List.mem_map.mpr ⟨r, hr', rfl⟩) y hy) ey
           omega
         . have el : labT rs R r.1 = [.str "endless", .int (Rb.setN (nbs rs (fOf R) r.1) : Nat)] := by unfold labT; rw [c]
           obtain ⟨H5, put, k⟩ := fin (upd H4 t (.tup [.str "endless", .int (Rb.setN (nbs rs (fOf R) r.1) : Nat)])) t ((fr.same s4).same (qaf ht)) (qai (s4 _ _ hDk) ht) (s4.trans (qaf ht)) (by rw [el]; exact qab)
           exact ⟨_, rfl, _, rfl, D, H5, rfl, put, k⟩
     . rintro σ' G3 ⟨v5', kvs, rfl, fr, hDk, ek, hv⟩
       rw [List.length_map, List.take_of_length_le (Nat.le_refl _)] at ek
       rw [List.length_map, List.length_map, List.take_of_length_le (Nat.le_refl _)] at hv
       exact ⟨_, rfl, q G3 D R (fun b u h => fr _ _ (sG2 _ _ (sG _ _ h)) (qam h hD0)) hD0 ⟨kvs, hDk, ek, hv⟩ all⟩
end
end Rh
set_option Elab.async false
set_option linter.all false
set_option maxRecDepth 100000
set_option maxHeartbeats 4000000
namespace Rh
open PySem L2 PyProof.Rows Rb
abbrev sNumIn : Stmt := top 34
abbrev sTurned : Stmt := top 35
abbrev sWhole : Stmt := top 12
abbrev sNumber : Stmt := top 39
abbrev sIsSet : Stmt := top 40
abbrev sSumOf : Stmt := top 44
abbrev sNInit : Stmt := inClass (top 42) 0
abbrev sNPlus : Stmt := inClass (top 42) 3
abbrev sNOut : Stmt := inClass (top 42) 4
abbrev sNEnd : Stmt := inClass (top 42) 5
abbrev sEInit : Stmt := inClass (top 43) 0
abbrev sEPlus : Stmt := inClass (top 43) 3
abbrev sEOut : Stmt := inClass (top 43) 4
abbrev sEEnd : Stmt := inClass (top 43) 5
section
variable {P : Program} {w : World} {K : PySem.W.Frag} {mg : Str -> Option Value} {base : Heap}
theorem bx (a b : Nat) : Builtin.bitXor a b = ((a ^^^ b : Nat) : Int) := by
 unfold Builtin.bitXor
 rw [bo, ba]
 have := Rb.or_and_xor a b
 omega
def spNumIn : Sp := fun vs H Q _ => ∃ b : Nat, vs = [.int b] /\ b < 65536 /\ ∀ l, H l = none -> Q (.ref l) (upd H l (.lst (iNs (Rb.memN b 16))))
def spTurned : Sp := fun vs H Q _ => ∃ b n : Nat, vs = [.int b, .int n] /\ b < 65536 /\ n < 16 /\ ∀ H', Same H H' -> Q (.int (Rb.turnN b n 16 : Nat)) H'
theorem bits_lt (b : Nat) : b < 2 ^ (Builtin.Int.intBits (b : Nat)) := by
 unfold Builtin.Int.intBits
 by_cases h : b = 0
 . subst h; simp
 . rw [if_neg (by simpa using h)]
   exact Nat.lt_log2_self
theorem bits_le16 {b : Nat} (h : b < 65536) : Builtin.Int.intBits (b : Nat) <= 16 := by
 unfold Builtin.Int.intBits
 by_cases h0 : b = 0
 . subst h0; simp
 . rw [if_neg (by simpa using h0)]
   have : b.log2 < 16 := (Nat.log2_lt h0).mpr h
   exact this
theorem shr_bit (b i : Nat) : Builtin.bitAnd ((b : Int) / 2 ^ ((i : Nat) : Int).toNat) 1 = (((b.testBit i).toNat : Nat) : Int) := by
 have e1 : (b : Int) / 2 ^ ((i : Nat) : Int).toNat = ((b / 2 ^ i : Nat) : Int) := by rw [Int.toNat_natCast]; push_cast; rfl
 have e2 : Builtin.bitAnd ((b / 2 ^ i : Nat) : Int) 1 = (((b / 2 ^ i) &&& 1 : Nat) : Int) := ba (b / 2 ^ i) 1
 rw [e1, e2, Nat.and_one_is_mod, Rb.testBit_div]
 by_cases h : b / 2 ^ i % 2 = 1
 . rw [h]; rfl
 . have h' : b / 2 ^ i % 2 = 0 := by omega
   rw [h']; rfl
theorem scNumIn : FnScope ["bits"] ["bits"] (defScope sNumIn) := ⟨rfl, rfl, rfl, by decide +kernel, rfl, by decide +kernel, by decide +kernel⟩
theorem ok_numin {f : Addr} {fd : FuncData} (F : Fun K "numbers_in" "numbers_in" sNumIn f fd) (B : Blt mg) : FnOk P w K mg base CX0 1 f fd ["bits"] spNumIn := by
 refine F.okJ scNumIn (fun vs H Q E h => ?_) (fun cdv A outer s H vs Q E hr h => ?_)
 . obtain ⟨b, rfl, _⟩ := h
   rfl
 . obtain ⟨b, rfl, hb, q⟩ := h
   refine ⟨_, qae (qal (qcg (N' := ["number", "bits"]) (ix := [none, some 0]) rfl ⟨rfl, rfl, rfl, rfl, rfl⟩
     (qaw (by rfl) B.rng (qaa (je_bm0 PySem.F.plainAttrs_int PySem.F.slot_int_bit_length PySem.F.type_int_bit_length mt_bitlen (jv 0)) qad))
     (fun C s2 H2 fp pins => ⟨qaj (i := 0) (show (["number", "bits"] : List Str).Nodup by decide +kernel) rfl (Or.inl rfl), qbr (qak op_eq (qau op_and (qau op_shr (jv 1) (jv 0)) qag) qag (nomark _)), jv 0⟩))), ?_⟩
   refine ⟨_, rfl, rfl, _, rfl, rfl, _, rfl, by omega, ?_, fun D hD => ?_⟩
   . have := bits_le16 hb
     omega
   . rw [Int.toNat_natCast]
     refine blk_range (fun i σ' H' => ∃ v, σ' = [v, some (.int b)] /\ H' = upd H D (.lst (iNs (Rb.memN b i)))) ⟨none, rfl, rfl⟩ ?_ ?_
     . rintro i σ' H' hi ⟨v, rfl, rfl⟩
       rw [Int.zero_add]
       refine ⟨_, rfl, _, rfl, _, _, rfl, rfl, by omega, _, _, rfl, rfl, rfl, _, rfl, ?_⟩
       have e : decide (V.int (Builtin.bitAnd ((b : Int) / 2 ^ ((i : Nat) : Int).toNat) 1) = V.int 1) = b.testBit i := by
         rw [shr_bit]
         cases b.testBit i <;> decide
       rw [e]
       have l : (iNs (Rb.memN b i)).length < sizeLine := by
         rw [iNs_len]
         refine small1000 ?_
         have := bits_le16 hb
         have h1 : (Rb.memN b i).length <= (List.range i).length := List.length_filter_le _ _
         rw [List.length_range] at h1
         omega
       cases hb' : b.testBit i with
       | true =>
         refine iteT ⟨_, rfl, _, qab, l, some (.int i), rfl, ?_⟩
         rw [qbl, iNs_snoc, Rb.memN_succ, hb']
         rfl
       | false =>
         refine iteF ⟨some (.int i), rfl, ?_⟩
         rw [Rb.memN_succ, hb']
         simp
     . rintro σ' H' ⟨v, rfl, rfl⟩
       rw [Rb.memN_same (m := 16) hb (bits_lt b)]
       exact q D hD
theorem scTurned : FnScope ["bits", "number"] ["bits", "number"] (defScope sTurned) := ⟨rfl, rfl, rfl, by decide +kernel, rfl, by decide +kernel, by decide +kernel⟩
theorem ok_turned {f fN fS : Addr} {fd fdN fdS : FuncData} (F : Fun K "set_turned" "set_turned" sTurned f fd) (B : Blt mg) (hN : Has K mg "numbers_in" sNumIn ["bits"] fN fdN) (hS : Has K mg "set_of" sSetOf ["numbers"] fS fdS) :
   FnOk P w K mg base CX0 2 f fd ["bits", "number"] spTurned := by
 have GN : FnOk P w K mg base CX0 1 fN fdN ["bits"] spNumIn := ok_numin hN.fn B
 have GS : FnOk P w K mg base CX0 1 fS fdS ["numbers"] (spSetOf K) := ok_setof hS.fn
 refine F.okJ scTurned (fun vs H Q E h => ?_) (fun cdv A outer s H vs Q E hr h => ?_)
 . obtain ⟨b, n, rfl, _⟩ := h
   rfl
 . obtain ⟨b, n, rfl, hb, hn, q⟩ := h
   refine ⟨_, qae (qal (je_f hS GS hr (by rfl) (qaa (qcg (N' := ["other", "number"]) (ix := [none, some 1]) rfl ⟨rfl, rfl, rfl, rfl, rfl⟩
     (qar (je_f hN GN hr (by rfl) (qaa (jv 0) qad)))
     (fun C s2 H2 fp pins => ⟨qaj (i := 0) (show (["other", "number"] : List Str).Nodup by decide +kernel) rfl (Or.inl rfl), qbo, qau op_xor (jv 0) (jv 1)⟩)) qad))), ?_⟩
   refine ⟨_, rfl, b, rfl, hb, fun l hl => ⟨l, rfl, ⟨_, .of qab⟩, fun D hD => ?_⟩⟩
   have nlD : l ≠ D := fun e => by rw [e, qab] at hD; cases hD
   have HD : H D = none := by rw [← hD, qah (Ne.symm nlD)]
   refine qbk (K := K) (a := l) (xs := iNs (Rb.memN b 16)) (fun i σ' H' => ∃ v, σ' = [v, some (.int n)] /\ H' = upd (upd H l (.lst (iNs (Rb.memN b 16)))) D (.lst (iNs (((Rb.memN b 16).take i).map (· ^^^ n))))) ⟨none, rfl, rfl⟩
     (fun i σ' H' _ ⟨_, _, e⟩ => .of (by rw [e, qah nlD]; exact qab)) ?_ ?_
   . rintro i x σ' H' hx ⟨v, rfl, rfl⟩
     obtain ⟨m, hm, rfl⟩ := iNs_get hx
     refine ⟨_, rfl, _, rfl, _, _, rfl, rfl, _, qab, ?_, some (.int m), rfl, ?_⟩
     . rw [iNs_len, List.length_map, List.length_take]
       refine small1000 (Nat.le_trans (Nat.min_le_right _ _) ?_)
       have h1 : (Rb.memN b 16).length <= (List.range 16).length := List.length_filter_le _ _
       rw [List.length_range] at h1
       omega
     . rw [qbl]
       dsimp only
       rw [bx, iNs_snoc, take_snoc hm, List.map_append]
       rfl
   . rintro σ' H' ⟨v, rfl, rfl⟩
     rw [iNs_len, List.take_of_length_le (Nat.le_refl _)]
     refine ⟨D, (Rb.memN b 16).map (· ^^^ n), rfl, .of qab, fun x hx => ?_, ?_⟩
     . obtain ⟨y, hy, rfl⟩ := List.mem_map.mp hx
       have := Rb.xor_lt (m := 4) (Rb.mem_memN.mp hy).1 hn
       omega
     . exact q _ (Same.upd (qaf hl) HD)
end
structure Cl (K : PySem.W.Frag) (mg : Str -> Option Value) (x qual fld : Str) (st : Stmt) (C f : Addr) (fd : FuncData) : Prop where
 cl : Cls K C
 mkr : Mk K C f
 ns : mg x = some (.ref C)
 na : NoAttr K C fld
 fn : Fun K "__init__" qual st f fd
 bi : Binds K fd ["self", fld] []
 ca : PySem.W.findIn K (.ref C) "__class__" = some (some (.builtin "object.__class__"))
 ob : PySem.W.mroIn K C (.type "object") = some true
structure Wk (K : PySem.W.Frag) (mg : Str -> Option Value) : Prop where
 isi : mg "isinstance" = none
 bool : mg "bool" = none
 kii : PySem.W.kitOne K (.type "int") (.type "int") = some true
 kib : PySem.W.kitOne K (.type "int") (.type "bool") = some false
 most : ∃ t, mg "MOST_NUMBER" = some (.int 15 t)
 mset : ∃ t, mg "MOST_BITS" = some (.int 65535 t)
theorem lk1 {f : Str} {v : V} : [(f, v)].lookup f = some v := by simp [List.lookup]
def IsW (CN CE : Addr) (H : Hp) (a : Addr) : W -> Prop
 | .num n => ∃ dx, H a = some (.ins CN dx [("number", .int (n : Nat))])
 | .edl b => ∃ dx, H a = some (.ins CE dx [("bits", .int (b : Nat))])
theorem IsW.same {CN CE : Addr} {H H' : Hp} {a : Addr} {w : W} (h : IsW CN CE H a w) (s : Same H H') : IsW CN CE H' a w := by
 cases w with
 | num n => obtain ⟨dx, e⟩ := h; exact ⟨dx, s _ _ e⟩
 | edl b => obtain ⟨dx, e⟩ := h; exact ⟨dx, s _ _ e⟩
section
variable {P : Program} {w : World} {K : PySem.W.Frag} {mg : Str -> Option Value} {base : Heap}
def spWholeI : Sp := fun vs H Q _ => ∃ i : Int, vs = [.int i] /\ Q (.bl true) H
def spNumber : Sp := fun vs H Q _ => ∃ i : Int, vs = [.int i] /\ 0 <= i /\ i <= 15 /\ Q (.bl true) H
def spIsSet : Sp := fun vs H Q _ => ∃ i : Int, vs = [.int i] /\ 0 <= i /\ i <= 65535 /\ Q (.bl true) H
theorem scWhole : FnScope ["thing"] ["thing"] (defScope sWhole) := ⟨rfl, rfl, rfl, by decide +kernel, rfl, by decide +kernel, by decide +kernel⟩
theorem ok_whole {f : Addr} {fd : FuncData} (F : Fun K "is_whole" "is_whole" sWhole f fd) (B : Blt mg) (T : Wk K mg) : FnOk P w K mg base CX0 1 f fd ["thing"] spWholeI := by
 refine F.okJ scWhole (fun vs H Q E h => ?_) (fun cdv A outer s H vs Q E hr h => ?_)
 . obtain ⟨i, rfl, _⟩ := h
   rfl
 . obtain ⟨i, rfl, q⟩ := h
   refine ⟨_, qae (qal (je_and (qan qbe (by rfl) T.isi boot_isinstance (qaa (jv 0) (qaa (qco (v := .ty "int") (by rfl) B.int boot_int rfl) qad)))
     (je_one (je_not (qan qbe (by rfl) T.isi boot_isinstance (qaa (jv 0) (qaa (qco (v := .ty "bool") (by rfl) T.bool boot_bool rfl) qad))))))), ?_⟩
   exact ⟨_, rfl, _, _, _, _, rfl, rfl, .int i, T.kii, _, rfl, iteT ⟨_, rfl, _, _, _, _, rfl, rfl, .int i, T.kib, _, rfl, q⟩⟩
theorem scNumber : FnScope ["thing"] ["thing"] (defScope sNumber) := ⟨rfl, rfl, rfl, by decide +kernel, rfl, by decide +kernel, by decide +kernel⟩
theorem ok_number {f fW : Addr} {fd fdW : FuncData} (F : Fun K "is_number" "is_number" sNumber f fd) (B : Blt mg) (T : Wk K mg) (hW : Has K mg "is_whole" sWhole ["thing"] fW fdW) : FnOk P w K mg base CX0 2 f fd ["thing"] spNumber := by
 have GW : FnOk P w K mg base CX0 1 fW fdW ["thing"] spWholeI := ok_whole hW.fn B T
 obtain ⟨t, hm⟩ := T.most
 refine F.okJ scNumber (fun vs H Q E h => ?_) (fun cdv A outer s H vs Q E hr h => ?_)
 . obtain ⟨i, rfl, _⟩ := h
   rfl
 . obtain ⟨i, rfl, h0, h1, q⟩ := h
   refine ⟨_, qae (qal (je_and (je_f hW GW hr (by rfl) (qaa (jv 0) qad)) (je_and (qcn op_le qag (jv 0) (nomark _)) (je_one (qcn op_le (jv 0) (je_glob (v := .int 15) (by rfl) hm ⟨_, rfl⟩) (nomark _)))))), ?_⟩
   refine ⟨_, rfl, i, rfl, _, rfl, iteT ⟨_, rfl, _, _, rfl, rfl, _, rfl, ?_⟩⟩
   rw [decide_eq_true h0]
   refine iteT ⟨_, rfl, _, _, rfl, rfl, ?_⟩
   have e : decide (i <= 15) = true := decide_eq_true h1
   show Q (.bl (decide (i <= 15))) H
   rw [e]
   exact q
theorem scIsSet : FnScope ["thing"] ["thing"] (defScope sIsSet) := ⟨rfl, rfl, rfl, by decide +kernel, rfl, by decide +kernel, by decide +kernel⟩
theorem ok_isset {f fW : Addr} {fd fdW : FuncData} (F : Fun K "is_set" "is_set" sIsSet f fd) (B : Blt mg) (T : Wk K mg) (hW : Has K mg "is_whole" sWhole ["thing"] fW fdW) : FnOk P w K mg base CX0 2 f fd ["thing"] spIsSet := by
 have GW : FnOk P w K mg base CX0 1 fW fdW ["thing"] spWholeI := ok_whole hW.fn B T
 obtain ⟨t, hm⟩ := T.mset
 refine F.okJ scIsSet (fun vs H Q E h => ?_) (fun cdv A outer s H vs Q E hr h => ?_)
 . obtain ⟨i, rfl, _⟩ := h
   rfl
 . obtain ⟨i, rfl, h0, h1, q⟩ := h
   refine ⟨_, qae (qal (je_and (je_f hW GW hr (by rfl) (qaa (jv 0) qad)) (je_and (qcn op_le qag (jv 0) (nomark _)) (je_one (qcn op_le (jv 0) (je_glob (v := .int 65535) (by rfl) hm ⟨_, rfl⟩) (nomark _)))))), ?_⟩
   refine ⟨_, rfl, i, rfl, _, rfl, iteT ⟨_, rfl, _, _, rfl, rfl, _, rfl, ?_⟩⟩
   rw [decide_eq_true h0]
   refine iteT ⟨_, rfl, _, _, rfl, rfl, ?_⟩
   have e : decide (i <= 65535) = true := decide_eq_true h1
   show Q (.bl (decide (i <= 65535))) H
   rw [e]
   exact q
def spInit (C : Addr) (fld : Str) (hi : Int) : Sp := fun vs H Q _ => ∃ (x dx : Addr) (n : Int), vs = [.ref x, .int n] /\ 0 <= n /\ n <= hi /\ H x = some (.ins C dx []) /\ Q .non (upd H x (.ins C dx [(fld, .int n)]))
theorem scNInit : FnScope ["self", "number"] ["self", "number"] (defScope sNInit) := ⟨rfl, rfl, rfl, by decide +kernel, rfl, by decide +kernel, by decide +kernel⟩
theorem ok_ninit {f fB fW CN : Addr} {fd fdB fdW : FuncData} (F : Fun K "__init__" "Numbered.__init__" sNInit f fd) (B : Blt mg) (T : Wk K mg) (hW : Has K mg "is_whole" sWhole ["thing"] fW fdW) (hB : Has K mg "is_number" sNumber ["thing"] fB fdB) (cl : Cls K CN) (na : NoAttr K CN "number") :
   FnOk P w K mg base CX0 3 f fd ["self", "number"] (spInit CN "number" 15) := by
 have GB : FnOk P w K mg base CX0 2 fB fdB ["thing"] spNumber := ok_number hB.fn B T hW
 refine F.okJ scNInit (fun vs H Q E h => ?_) (fun cdv A outer s H vs Q E hr h => ?_)
 . obtain ⟨x, dx, n, rfl, _⟩ := h
   rfl
 . obtain ⟨x, dx, n, rfl, h0, h1, hx, q⟩ := h
   refine ⟨_, qac (qba (jt_not (qbv (je_f hB GB hr (by rfl) (qaa (jv 1) qad)))) qbb qap) (qae (js_fld (jv 0) (jv 1) rfl)), ?_⟩
   exact ⟨_, rfl, n, rfl, h0, h1, _, rfl, iteF ⟨_, rfl, _, rfl, x, CN, dx, [], rfl, hx, cl, na, by decide, q⟩⟩
theorem scEInit : FnScope ["self", "bits"] ["self", "bits"] (defScope sEInit) := ⟨rfl, rfl, rfl, by decide +kernel, rfl, by decide +kernel, by decide +kernel⟩
theorem ok_einit {f fB fW CE : Addr} {fd fdB fdW : FuncData} (F : Fun K "__init__" "Endless.__init__" sEInit f fd) (B : Blt mg) (T : Wk K mg) (hW : Has K mg "is_whole" sWhole ["thing"] fW fdW) (hB : Has K mg "is_set" sIsSet ["thing"] fB fdB) (cl : Cls K CE) (na : NoAttr K CE "bits") :
   FnOk P w K mg base CX0 3 f fd ["self", "bits"] (spInit CE "bits" 65535) := by
 have GB : FnOk P w K mg base CX0 2 fB fdB ["thing"] spIsSet := ok_isset hB.fn B T hW
 refine F.okJ scEInit (fun vs H Q E h => ?_) (fun cdv A outer s H vs Q E hr h => ?_)
 . obtain ⟨x, dx, n, rfl, _⟩ := h
   rfl
 . obtain ⟨x, dx, n, rfl, h0, h1, hx, q⟩ := h
   refine ⟨_, qac (qba (jt_not (qbv (je_f hB GB hr (by rfl) (qaa (jv 1) qad)))) qbb qap) (qae (js_fld (jv 0) (jv 1) rfl)), ?_⟩
   exact ⟨_, rfl, n, rfl, h0, h1, _, rfl, iteF ⟨_, rfl, _, rfl, x, CE, dx, [], rfl, hx, cl, na, by decide, q⟩⟩
def spBl (b : Bool) : Sp := fun vs H Q _ => ∃ a, vs = [.ref a] /\ Q (.bl b) H
theorem scNEnd : FnScope ["self"] ["self"] (defScope sNEnd) := ⟨rfl, rfl, rfl, by decide +kernel, rfl, by decide +kernel, by decide +kernel⟩
theorem ok_nend {f : Addr} {fd : FuncData} (F : Fun K "is_endless" "Numbered.is_endless" sNEnd f fd) : FnOk P w K mg base CX0 1 f fd ["self"] (spBl false) := by
 refine F.okJ scNEnd (fun vs H Q E h => ?_) (fun cdv A outer s H vs Q E hr h => ?_)
 . obtain ⟨a, rfl, _⟩ := h
   rfl
 . obtain ⟨a, rfl, q⟩ := h
   exact ⟨_, qae (qal qcp), q⟩
theorem scEEnd : FnScope ["self"] ["self"] (defScope sEEnd) := ⟨rfl, rfl, rfl, by decide +kernel, rfl, by decide +kernel, by decide +kernel⟩
theorem ok_eend {f : Addr} {fd : FuncData} (F : Fun K "is_endless" "Endless.is_endless" sEEnd f fd) : FnOk P w K mg base CX0 1 f fd ["self"] (spBl true) := by
 refine F.okJ scEEnd (fun vs H Q E h => ?_) (fun cdv A outer s H vs Q E hr h => ?_)
 . obtain ⟨a, rfl, _⟩ := h
   rfl
 . obtain ⟨a, rfl, q⟩ := h
   exact ⟨_, qae (qal qcp), q⟩
end
structure WF (K : PySem.W.Frag) (mg : Str -> Option Value) where
 (CN CE fNI fEI fNO fEO fNP fEP fNE fEE fW fB fS fT fN fO : Addr)
 (dNI dEI dNO dEO dNP dEP dNE dEE dW dB dS dT dN dO : FuncData)
 ne : CN ≠ CE
 cN : Cl K mg "Numbered" "Numbered.__init__" "number" sNInit CN fNI dNI
 cE : Cl K mg "Endless" "Endless.__init__" "bits" sEInit CE fEI dEI
 nO : Mth K CN "outcome" "Numbered.outcome" sNOut ["self"] fNO dNO
 eO : Mth K CE "outcome" "Endless.outcome" sEOut ["self"] fEO dEO
 nP : Mth K CN "plus" "Numbered.plus" sNPlus ["self", "other"] fNP dNP
 eP : Mth K CE "plus" "Endless.plus" sEPlus ["self", "other"] fEP dEP
 nE : Mth K CN "is_endless" "Numbered.is_endless" sNEnd ["self"] fNE dNE
 eE : Mth K CE "is_endless" "Endless.is_endless" sEEnd ["self"] fEE dEE
 hW : Has K mg "is_whole" sWhole ["thing"] fW dW
 hB : Has K mg "is_number" sNumber ["thing"] fB dB
 hS : Has K mg "is_set" sIsSet ["thing"] fS dS
 hT : Has K mg "set_turned" sTurned ["bits", "number"] fT dT
 hN : Has K mg "numbers_in" sNumIn ["bits"] fN dN
 hO : Has K mg "set_of" sSetOf ["numbers"] fO dO
section
variable {P : Program} {w : World} {K : PySem.W.Frag} {mg : Str -> Option Value} {base : Heap}
def isE : W -> Bool
 | .num _ => false
 | .edl _ => true
theorem WF.gNI (h : WF K mg) (B : Blt mg) (T : Wk K mg) : FnOk P w K mg base CX0 3 h.fNI h.dNI ["self", "number"] (spInit h.CN "number" 15) := ok_ninit h.cN.fn B T h.hW h.hB h.cN.cl h.cN.na
theorem WF.gEI (h : WF K mg) (B : Blt mg) (T : Wk K mg) : FnOk P w K mg base CX0 3 h.fEI h.dEI ["self", "bits"] (spInit h.CE "bits" 65535) := ok_einit h.cE.fn B T h.hW h.hS h.cE.cl h.cE.na
theorem WF.gNE (h : WF K mg) : FnOk P w K mg base CX0 1 h.fNE h.dNE ["self"] (spBl false) := ok_nend h.nE.fn
theorem WF.gEE (h : WF K mg) : FnOk P w K mg base CX0 1 h.fEE h.dEE ["self"] (spBl true) := ok_eend h.eE.fn
theorem WF.gT (h : WF K mg) (B : Blt mg) : FnOk P w K mg base CX0 2 h.fT h.dT ["bits", "number"] spTurned := ok_turned h.hT.fn B h.hN h.hO
theorem nlk {f g : Str} {v : V} (h : (g == f) = false) : [(f, v)].lookup g = none := by simp [List.lookup, h]
theorem n1 : ((Str.ofString "is_endless") == (Str.ofString "number")) = false := by decide +kernel
theorem n2 : ((Str.ofString "is_endless") == (Str.ofString "bits")) = false := by decide +kernel
theorem n5 : ((Str.ofString "plus") == (Str.ofString "number")) = false := by decide +kernel
theorem n6 : ((Str.ofString "plus") == (Str.ofString "bits")) = false := by decide +kernel
theorem end_rd {CN CE a : Addr} {H : Hp} {w : W} {Q : VK} (h : IsW CN CE H a w) (q : Q (.bl (isE w)) H) : ∃ a' dx fs, V.ref a = .ref a' /\ fs.lookup (Str.ofString "is_endless") = none /\ ((H a' = some (.ins CN dx fs) /\ spBl false [V.ref a] H Q E0) ∨ (H a' = some (.ins CE dx fs) /\ spBl true [V.ref a] H Q E0)) := by
 cases w with
 | num n => obtain ⟨dx, e⟩ := h; exact ⟨a, dx, _, rfl, nlk n1, .inl ⟨e, a, rfl, q⟩⟩
 | edl b => obtain ⟨dx, e⟩ := h; exact ⟨a, dx, _, rfl, nlk n2, .inr ⟨e, a, rfl, q⟩⟩
theorem je_end {X : Cx} (h : WF X.K X.mg) (hr : Room 1 X.A) {o : Expr} {ta : TE} {apos pos : Pos} {pl : Sem Bool} (he : JE X o ta)
   (ht : eval (.Call (.Attribute o "is_endless" apos) [] [] pos) X.env = (eval o X.env >>= fun ov => standAt apos.atName >>= fun _ => holding [ov] (getMethod ov "is_endless" pl) >>= fun r => callWith pos r.1 r.2 (backTo pos (starEach [] X.env)) (backToKw pos (keywordEach [] X.env))) := by rfl) :
   JE X (.Call (.Attribute o "is_endless" apos) [] [] pos) (fun σ H Q => ta σ H fun x H1 => ∃ a u, x = .ref a /\ IsW h.CN h.CE H1 a u /\ Q (.bl (isE u)) H1) :=
 je_conv (je_methA0 (je_wk he) h.cN.cl h.nE.me h.gNE hr h.nE.bi h.cE.cl h.eE.me h.gEE hr h.eE.bi ht) fun σ H Q q => ⟨_, q, fun x H1 ⟨a, u, e, i, q1⟩ => by subst e; exact end_rd i q1⟩
def spPlusN (CN CE : Addr) : Sp := fun vs H Q _ => ∃ a o n v, vs = [.ref a, .ref o] /\ IsW CN CE H a (.num n) /\ IsW CN CE H o v /\ n < 16 /\ okW v /\ ∀ H' r, Same H H' -> IsW CN CE H' r (plusW (.num n) v) -> Q (.ref r) H'
def spPlusE (CN CE : Addr) : Sp := fun vs H Q _ => ∃ a o b v, vs = [.ref a, .ref o] /\ IsW CN CE H a (.edl b) /\ IsW CN CE H o v /\ b < 65536 /\ okW v /\ ∀ H' r, Same H H' -> IsW CN CE H' r (plusW (.edl b) v) -> Q (.ref r) H'
theorem new_num {CN CE : Addr} {H : Hp} {x dx : Addr} {n : Nat} (hx : H x = none) (hd : H dx = none) (hne : dx ≠ x) : Same H (upd (upd (upd H dx (.own x)) x (.ins CN dx [])) x (.ins CN dx [("number", .int (n : Nat))])) /\ IsW CN CE (upd (upd (upd H dx (.own x)) x (.ins CN dx [])) x (.ins CN dx [("number", .int (n : Nat))])) x (.num n) :=
 ⟨fun b o hb => by rw [qah (qam hb hx), qah (qam hb hx), qah (qam hb hd)]; exact hb, dx, qab⟩
theorem new_edl {CN CE : Addr} {H : Hp} {x dx : Addr} {b : Nat} (hx : H x = none) (hd : H dx = none) (hne : dx ≠ x) : Same H (upd (upd (upd H dx (.own x)) x (.ins CE dx [])) x (.ins CE dx [("bits", .int (b : Nat))])) /\ IsW CN CE (upd (upd (upd H dx (.own x)) x (.ins CE dx [])) x (.ins CE dx [("bits", .int (b : Nat))])) x (.edl b) :=
 ⟨fun b o hb => by rw [qah (qam hb hx), qah (qam hb hx), qah (qam hb hd)]; exact hb, dx, qab⟩
theorem scEPlus : FnScope ["self", "other"] ["self", "other"] (defScope sEPlus) := ⟨rfl, rfl, rfl, by decide +kernel, rfl, by decide +kernel, by decide +kernel⟩
theorem WF.gEP (h : WF K mg) (B : Blt mg) (T : Wk K mg) : FnOk P w K mg base CX0 5 h.fEP h.dEP ["self", "other"] (spPlusE h.CN h.CE) := by
 refine h.eP.fn.okJ scEPlus (fun vs H Q E z => ?_) (fun cdv A outer s H vs Q E hr z => ?_)
 . obtain ⟨a, o, b, v, rfl, _⟩ := z
   rfl
 . obtain ⟨a, o, b, v, rfl, ha, ho, hb, hv, q⟩ := z
   refine ⟨_, qac (qba (qbv (je_end h (hr.mono (by decide)) (jv 1))) (qae (qal (je_make h.cE.mkr (h.gEI B T) hr (by rfl) h.cE.ns h.cE.bi .nil pass0 (qaa qag qad)))) qap)
     (qae (qal (je_make h.cE.mkr (h.gEI B T) hr (by rfl) h.cE.ns h.cE.bi .nil pass0 (qaa (je_f h.hT (h.gT B) (hr.mono (by decide)) (by rfl) (qaa (je_fld (jv 0) rfl) (qaa (je_fld (jv 1) rfl) qad))) qad)))), ?_⟩
   refine ⟨_, rfl, o, v, rfl, ho, _, rfl, ?_⟩
   cases v with
   | edl c =>
     refine iteT (fun x dx hx hd hne => ⟨x, dx, 0, rfl, by decide, by decide, qab, rfl, ?_⟩)
     obtain ⟨s1, i1⟩ := new_edl (CN := h.CN) (CE := h.CE) (b := 0) hx hd hne
     exact q _ _ s1 i1
   | num n =>
     obtain ⟨dx0, e0⟩ := id ha
     obtain ⟨dx1, e1⟩ := id ho
     refine iteF ⟨_, rfl, a, h.CE, dx0, _, _, rfl, e0, h.cE.cl, h.cE.na, lk1, _, rfl, o, h.CN, dx1, _, _, rfl, e1, h.cN.cl, h.cN.na, lk1, b, n, rfl, hb, hv, fun H1 s1 x dx hx hd hne => ?_⟩
     have lt := turn_lt (k := 4) (b := b) (Nat.le_refl _) hv
     refine ⟨x, dx, _, rfl, by omega, ?_, qab, rfl, ?_⟩
     . have : turnN b n 16 < 65536 := lt
       omega
     . obtain ⟨s2, i2⟩ := new_edl (CN := h.CN) (CE := h.CE) (b := turnN b n 16) hx hd hne
       exact q _ _ (s1.trans s2) i2
theorem scNPlus : FnScope ["self", "other"] ["self", "other"] (defScope sNPlus) := ⟨rfl, rfl, rfl, by decide +kernel, rfl, by decide +kernel, by decide +kernel⟩
theorem WF.gNP (h : WF K mg) (B : Blt mg) (T : Wk K mg) : FnOk P w K mg base CX0 6 h.fNP h.dNP ["self", "other"] (spPlusN h.CN h.CE) := by
 refine h.nP.fn.okJ scNPlus (fun vs H Q E z => ?_) (fun cdv A outer s H vs Q E hr z => ?_)
 . obtain ⟨a, o, b, v, rfl, _⟩ := z
   rfl
 . obtain ⟨a, o, n, v, rfl, ha, ho, hn, hv, q⟩ := z
   refine ⟨_, qac (qba (qbv (je_end h (hr.mono (by decide)) (jv 1))) (qae (qal (je_m1 h.eP h.cE.cl (h.gEP B T) hr (jv 1) (qaa (jv 0) qad)))) qap)
     (qae (qal (je_make h.cN.mkr (h.gNI B T) (hr.mono (by decide)) (by rfl) h.cN.ns h.cN.bi .nil pass0 (qaa (qau op_xor (je_fld (jv 0) rfl) (je_fld (jv 1) rfl)) qad)))), ?_⟩
   refine ⟨_, rfl, o, v, rfl, ho, _, rfl, ?_⟩
   cases v with
   | edl c =>
     obtain ⟨dx1, e1⟩ := id ho
     exact iteT ⟨_, rfl, o, dx1, _, rfl, e1, nlk n6, _, rfl, o, a, c, .num n, rfl, ho, ha, hv, hn, fun H' r s i => q H' r s i⟩
   | num m =>
     obtain ⟨dx0, e0⟩ := id ha
     obtain ⟨dx1, e1⟩ := id ho
     refine iteF ⟨_, rfl, a, h.CN, dx0, _, _, rfl, e0, h.cN.cl, h.cN.na, lk1, _, rfl, o, h.CN, dx1, _, _, rfl, e1, h.cN.cl, h.cN.na, lk1, _, _, rfl, rfl, fun x dx hx hd hne => ?_⟩
     have lt : n ^^^ m < 16 := xor_lt (m := 4) hn hv
     refine ⟨x, dx, ((n ^^^ m : Nat) : Int), by rw [← bx]; rfl, by omega, by omega, qab, rfl, ?_⟩
     obtain ⟨s2, i2⟩ := new_num (CN := h.CN) (CE := h.CE) (n := n ^^^ m) hx hd hne
     exact q _ _ s2 i2
theorem plus_rd {CN CE a : Addr} {H : Hp} {u : W} {Q : VK} {t : TA} {σ : L2.St} (h : IsW CN CE H a u) (hu : okW u) (ht : t σ H fun vs H2 => ∃ o v, vs = [.ref o] /\ IsW CN CE H2 a u /\ IsW CN CE H2 o v /\ okW v /\ ∀ H' r, Same H2 H' -> IsW CN CE H' r (plusW u v) -> Q (.ref r) H')
   (mono : ∀ R R' : List V -> Hp -> Prop, (∀ vs H, R vs H -> R' vs H) -> t σ H R -> t σ H R') :
   ∃ a' dx fs, V.ref a = .ref a' /\ fs.lookup (Str.ofString "plus") = none /\ ((H a' = some (.ins CN dx fs) /\ t σ H fun vs H2 => spPlusN CN CE (V.ref a :: vs) H2 Q E0) ∨ (H a' = some (.ins CE dx fs) /\ t σ H fun vs H2 => spPlusE CN CE (V.ref a :: vs) H2 Q E0)) := by
 cases u with
 | num n =>
   obtain ⟨dx, e⟩ := id h
   exact ⟨a, dx, _, rfl, nlk n5, .inl ⟨e, mono _ _ (fun vs H2 ⟨o, v, e1, h1, h2, h3, h4⟩ => ⟨a, o, n, v, by rw [e1], h1, h2, hu, h3, h4⟩) ht⟩⟩
 | edl b =>
   obtain ⟨dx, e⟩ := id h
   exact ⟨a, dx, _, rfl, nlk n6, .inr ⟨e, mono _ _ (fun vs H2 ⟨o, v, e1, h1, h2, h3, h4⟩ => ⟨a, o, b, v, by rw [e1], h1, h2, hu, h3, h4⟩) ht⟩⟩
theorem je_plus {X : Cx} (h : WF X.K X.mg) (B : Blt X.mg) (T : Wk X.K X.mg) (hr : Room 6 X.A) {o e : Expr} {ta : TE} {t : TA} {apos pos : Pos} {pl : Sem Bool} (he : JE X o ta) (ha : JA X [e] t) (hst : starEach [e] X.env = (false, eval e X.env) :: starEach [] X.env := by rfl)
   (ht : eval (.Call (.Attribute o "plus" apos) [e] [] pos) X.env = (eval o X.env >>= fun ov => standAt apos.atName >>= fun _ => holding [ov] (getMethod ov "plus" pl) >>= fun r => callWith pos r.1 r.2 (backTo pos (starEach [e] X.env)) (backToKw pos (keywordEach [] X.env))) := by rfl) :
   JE X (.Call (.Attribute o "plus" apos) [e] [] pos) (fun σ H Q => ta σ H fun x H1 => ∃ a u, x = .ref a /\ IsW h.CN h.CE H1 a u /\ okW u /\ t σ H1 fun vs H2 => ∃ o v, vs = [.ref o] /\ IsW h.CN h.CE H2 a u /\ IsW h.CN h.CE H2 o v /\ okW v /\ ∀ H' r, Same H2 H' -> IsW h.CN h.CE H' r (plusW u v) -> Q (.ref r) H') :=
 je_conv (je_methA (je_wk he) h.cN.cl h.nP.me (h.gNP B T) hr h.nP.bi h.cE.cl h.eP.me (h.gEP B T) (hr.mono (by decide)) h.eP.bi (ja_wk ha) hst rfl ht) fun σ H Q q => ⟨_, q, fun x H1 ⟨a, u, e, i, hu, q1⟩ => by
   subst e
   exact plus_rd (t := aWk t) i hu ⟨_, q1, fun vs H2 z => z⟩ fun R R' k ⟨G, g, z⟩ => ⟨G, g, fun vs H2 y => k vs H2 (z vs H2 y)⟩⟩
def Wl (CN CE : Addr) (H : Hp) (as : List Addr) (ws : List W) : Prop := as.length = ws.length /\ ∀ (i : Nat) (a : Addr) (u : W), as[i]? = some a -> ws[i]? = some u -> IsW CN CE H a u
def spSumOf (K : PySem.W.Frag) (CN CE : Addr) : Sp := fun vs H Q _ => ∃ (l : Addr) (as : List Addr) (ws : List W), vs = [.ref l] /\ SqL K H l (as.map V.ref) /\ Wl CN CE H as ws /\ (∀ u ∈ ws, okW u) /\ ∀ H' r, Same H H' -> IsW CN CE H' r (totW ws) -> Q (.ref r) H'
theorem scSumOf : FnScope ["worths", "total", "worth"] ["worths"] (defScope sSumOf) := ⟨rfl, rfl, rfl, by decide +kernel, rfl, by decide +kernel, by decide +kernel⟩
theorem fold_take_ok {ws : List W} (h : ∀ u ∈ ws, okW u) (i : Nat) : okW ((ws.take i).foldl plusW (.num 0)) := by
 have h' : ∀ u ∈ ws.take i, okW u := fun u hu => h u (List.mem_of_mem_take hu)
 rw [fold_all h']
 exact tot_ok h'
theorem ok_sumof {f : Addr} {fd : FuncData} (F : Fun K "sum_of" "sum_of" sSumOf f fd) (h : WF K mg) (B : Blt mg) (T : Wk K mg) : FnOk P w K mg base CX0 7 f fd ["worths"] (spSumOf K h.CN h.CE) := by
 refine F.okJ scSumOf (fun vs H Q E z => ?_) (fun cdv A outer s H vs Q E hr z => ?_)
 . obtain ⟨l, as, ws, rfl, _⟩ := z
   rfl
 . obtain ⟨l, as, ws, rfl, hS, hW, hok, q⟩ := z
   refine ⟨_, qac (qao (i := 1) scSumOf.nd rfl (Or.inl rfl) (je_make h.cN.mkr (h.gNI B T) (hr.mono (by decide)) (by rfl) h.cN.ns h.cN.bi .nil pass0 (qaa qag qad)))
     (qac (qbf PassesOwn.never rfl (qar (jv 0)) (qaj (i := 2) scSumOf.nd rfl (Or.inl rfl)) (qae (qao (i := 1) scSumOf.nd rfl (Or.inl rfl) (je_plus h B T hr (jv 1) (qaa (jv 2) qad)))))
     (qae (qal (jv 1)))), ?_⟩
   intro x dx hx hd hne
   refine ⟨x, dx, 0, rfl, by decide, by decide, qab, rfl, ?_⟩
   obtain ⟨s1, i1⟩ := new_num (CN := h.CN) (CE := h.CE) (n := 0) hx hd hne
   refine ⟨_, rfl, l, rfl, ⟨_, s1.seq hS⟩, ?_⟩
   refine qbh (K := K) (a := l) (xs := as.map V.ref) (fun i σ H' => ∃ r v, σ = [some (.ref l), some (.ref r), v] /\ Same H H' /\ IsW h.CN h.CE H' r ((ws.take i).foldl plusW (.num 0))) ⟨x, none, rfl, s1, i1⟩ (fun i σ H' _ ⟨_, _, _, e, _⟩ => e.seq hS) ?_ ?_
   . rintro i y σ H' hy ⟨r, v, rfl, s2, i2⟩
     rw [List.getElem?_map] at hy
     cases ea : as[i]? with
     | none => rw [ea] at hy; cases hy
     | some o =>
       rw [ea] at hy
       obtain rfl := (Option.some.inj hy).symm
       have hi : i < ws.length := by
         have := (List.getElem?_eq_some_iff.mp ea).1
         rw [hW.1] at this
         exact this
       have ew : ws[i]? = some ws[i] := List.getElem?_eq_getElem hi
       have io := (hW.2 i o _ ea ew).same s2
       have et : ws.take (i + 1) = ws.take i ++ [ws[i]] := by rw [List.take_add_one, ew]; rfl
       refine ⟨_, rfl, r, _, rfl, i2, fold_take_ok hok i, _, rfl, o, _, rfl, i2, io, hok _ (List.getElem_mem hi), fun H3 r3 s3 i3 => ?_⟩
       refine ⟨r3, _, rfl, s2.trans s3, ?_⟩
       rw [et, List.foldl_append]
       exact i3
   . rintro σ H' ⟨r, v, rfl, s2, i2⟩
     refine ⟨_, rfl, q _ _ s2 ?_⟩
     rw [List.length_map, hW.1, List.take_of_length_le (Nat.le_refl _), fold_all hok] at i2
     exact i2
def outW : W -> Str
 | .num n => if n = 0 then "lost" else "won"
 | .edl b => if b.testBit 0 = true then "won" else "drawn"
def spOutN (CN CE : Addr) : Sp := fun vs H Q _ => ∃ a n, vs = [.ref a] /\ IsW CN CE H a (.num n) /\ Q (.str (outW (.num n))) H
def spOutE (CN CE : Addr) : Sp := fun vs H Q _ => ∃ a b, vs = [.ref a] /\ IsW CN CE H a (.edl b) /\ b < 65536 /\ ∀ H', Same H H' -> Q (.str (outW (.edl b))) H'
theorem scNOut : FnScope ["self"] ["self"] (defScope sNOut) := ⟨rfl, rfl, rfl, by decide +kernel, rfl, by decide +kernel, by decide +kernel⟩
theorem scEOut : FnScope ["self"] ["self"] (defScope sEOut) := ⟨rfl, rfl, rfl, by decide +kernel, rfl, by decide +kernel, by decide +kernel⟩
theorem WF.gNO (h : WF K mg) : FnOk P w K mg base CX0 1 h.fNO h.dNO ["self"] (spOutN h.CN h.CE) := by
 refine h.nO.fn.okJ scNOut (fun vs H Q E z => ?_) (fun cdv A outer s H vs Q E hr z => ?_)
 . obtain ⟨a, n, rfl, _⟩ := z
   rfl
 . obtain ⟨a, n, rfl, ⟨dx, e⟩, q⟩ := z
   refine ⟨_, qac (qba (qak op_eq (je_fld (jv 0) rfl) qag (nomark _)) (qae (qal qat)) qap) (qae (qal qat)), ?_⟩
   refine ⟨_, rfl, a, h.CN, dx, _, _, rfl, e, h.cN.cl, h.cN.na, lk1, rfl, _, rfl, ?_⟩
   have q : Q (.str (if n = 0 then "lost" else "won")) H := q
   by_cases c : n = 0
   . subst c
     rw [if_pos rfl] at q
     exact iteT_of (by decide) q
   . rw [if_neg c] at q
     exact qcx (decide_eq_false fun z => c (by have := V.int.inj z; omega)) q
theorem WF.gEO (h : WF K mg) (B : Blt mg) : FnOk P w K mg base CX0 2 h.fEO h.dEO ["self"] (spOutE h.CN h.CE) := by
 have GN : FnOk P w K mg base CX0 1 h.fN h.dN ["bits"] spNumIn := ok_numin h.hN.fn B
 refine h.eO.fn.okJ scEOut (fun vs H Q E z => ?_) (fun cdv A outer s H vs Q E hr z => ?_)
 . obtain ⟨a, b, rfl, _⟩ := z
   rfl
 . obtain ⟨a, b, rfl, ⟨dx, e⟩, hb, q⟩ := z
   refine ⟨_, qac (qba (qak qca qag (je_f h.hN GN hr (by rfl) (qaa (je_fld (jv 0) rfl) qad)) (by with_unfolding_all rfl)) (qae (qal qat)) qap) (qae (qal qat)), ?_⟩
   refine ⟨_, rfl, a, h.CE, dx, _, _, rfl, e, h.cE.cl, h.cE.na, lk1, b, rfl, hb, fun l hl => ?_⟩
   refine ⟨l, _, rfl, .inl (.of qab), rfl, iNs_flat _, _, rfl, ?_⟩
   have e0 : inV (.int ((0 : Nat) : Int)) (iNs (memN b 16)) = b.testBit 0 := by
     rw [iNs_in]
     unfold memN
     rw [Bool.eq_iff_iff, decide_eq_true_iff, List.mem_filter]
     exact ⟨fun h => h.2, fun h => ⟨by decide, h⟩⟩
   have q := q _ (qaf (o := HO.lst (iNs (memN b 16))) hl)
   have q : Q (.str (if b.testBit 0 = true then "won" else "drawn")) (upd H l (HO.lst (iNs (memN b 16)))) := q
   show if inV (.int ((0 : Nat) : Int)) (iNs (memN b 16)) = true then _ else _
   rw [e0]
   cases c : b.testBit 0 with
   | true => rw [if_pos c] at q; exact iteT q
   | false => rw [if_neg (by rw [c]; exact Bool.false_ne_true)] at q; exact iteF q
theorem n7 : ((Str.ofString "outcome") == (Str.ofString "number")) = false := by decide +kernel
theorem n8 : ((Str.ofString "outcome") == (Str.ofString "bits")) = false := by decide +kernel
theorem outc_rd {CN CE a : Addr} {H : Hp} {w : W} {Q : VK} (h : IsW CN CE H a w) (ok : okW w) (q : ∀ H', Same H H' -> Q (.str (outW w)) H') :
   ∃ a' dx fs, V.ref a = .ref a' /\ fs.lookup (Str.ofString "outcome") = none /\ ((H a' = some (.ins CN dx fs) /\ spOutN CN CE [V.ref a] H Q E0) ∨ (H a' = some (.ins CE dx fs) /\ spOutE CN CE [V.ref a] H Q E0)) := by
 cases w with
 | num n => obtain ⟨dx, e⟩ := id h; exact ⟨a, dx, _, rfl, nlk n7, .inl ⟨e, a, n, rfl, h, q H fun _ _ z => z⟩⟩
 | edl b => obtain ⟨dx, e⟩ := id h; exact ⟨a, dx, _, rfl, nlk n8, .inr ⟨e, a, b, rfl, h, ok, q⟩⟩
theorem je_outc {X : Cx} (h : WF X.K X.mg) (B : Blt X.mg) (hr : Room 2 X.A) {o : Expr} {ta : TE} {apos pos : Pos} {pl : Sem Bool} (he : JE X o ta)
   (ht : eval (.Call (.Attribute o "outcome" apos) [] [] pos) X.env = (eval o X.env >>= fun ov => standAt apos.atName >>= fun _ => holding [ov] (getMethod ov "outcome" pl) >>= fun r => callWith pos r.1 r.2 (backTo pos (starEach [] X.env)) (backToKw pos (keywordEach [] X.env))) := by rfl) :
   JE X (.Call (.Attribute o "outcome" apos) [] [] pos) (fun σ H Q => ta σ H fun x H1 => ∃ a u, x = .ref a /\ IsW h.CN h.CE H1 a u /\ okW u /\ ∀ H', Same H1 H' -> Q (.str (outW u)) H') :=
 je_conv (je_methA0 (je_wk he) h.cN.cl h.nO.me h.gNO (hr.mono (by decide)) h.nO.bi h.cE.cl h.eO.me (h.gEO B) hr h.eO.bi ht) fun σ H Q q => ⟨_, q, fun x H1 ⟨a, u, e, i, k, q1⟩ => by subst e; exact outc_rd i k q1⟩
end
end Rh
set_option Elab.async false
set_option linter.all false
set_option maxRecDepth 100000
set_option maxHeartbeats 4000000
namespace Rh
open PySem L2 PyProof.Rows MLab Rb
abbrev sPlace : Stmt := top 25
abbrev sNHeap : Stmt := top 28
abbrev sLW : Stmt := top 52
abbrev sWBy : Stmt := top 54
abbrev sHW : Stmt := top 57
abbrev sOutc : Stmt := top 58
structure HeapAt (H : Hp) (h : Addr) (rs : Rws) (hs : List Str) : Prop where
 at_ : H h = some (.lst (hs.map V.str))
 le : hs.length <= 8
 in_ : ∀ z ∈ hs, ∃ r ∈ rs, r.1 = z
theorem HeapAt.mono {H H' : Hp} {h : Addr} {rs : Rws} {hs : List Str} (x : HeapAt H h rs hs) (s : Same H H') : HeapAt H' h rs hs := ⟨s _ _ x.at_, x.le, x.in_⟩
def spPlace (CG : Addr) : Sp := fun vs H Q _ => ∃ (g : Addr) (rs : Rws) (z : Str), vs = [.ref g, .str z] /\ GrAt CG H g rs /\ (∃ r ∈ rs, r.1 = z) /\ ∀ H', Same H H' -> Q .non H'
def spNHeap (CG : Addr) : Sp := fun vs H Q _ => ∃ (g h : Addr) (rs : Rws) (hs : List Str), vs = [.ref g, .ref h] /\ GrAt CG H g rs /\ HeapAt H h rs hs /\ ∀ H', Same H H' -> Q .non H'
def TK (H H' : Hp) : Prop := ∀ a xs, H a = some (.tup xs) -> H' a = some (.tup xs)
theorem TK.of {H H' : Hp} (s : Same H H') : TK H H' := fun a xs h => s _ _ h
theorem TK.upd {H : Hp} {d : Addr} {o u : HO} (hd : H d = some o) (no : ∀ xs, o ≠ .tup xs) : TK H (upd H d u) := fun a xs h => by
 rw [qah (fun e => by rw [e, hd] at h; exact no xs (Option.some.inj h))]
 exact h
def ldOf (rs : Rws) (z : Str) : List Str := match rs.find? (fun r => decide (r.1 = z)) with
 | some r => r.2
 | none => []
theorem ldOf_row {rs : Rws} {r : Str × List Str} (hn : (rs.map (·.1)).Nodup) (h : r ∈ rs) : ldOf rs r.1 = r.2 := by
 unfold ldOf
 rw [find_row hn h]
theorem qaq {rs : Rws} (g : GoodRows rs) {z y : Str} (hz : z ∈ rs.map (·.1)) : y ∈ ldOf rs z ↔ y ∈ gOf rs z := by
 obtain ⟨r, hr, rfl⟩ := List.mem_map.mp hz
 rw [ldOf_row g.nd hr, gOf_iff g hr]
theorem labL {rs : Rws} (g : GoodRows rs) {num : Str -> Option Nat} {stp : Str -> Nat} (L : Lab (gOf rs) (· ∈ rs.map (·.1)) num stp) : Lab (ldOf rs) (· ∈ rs.map (·.1)) num stp where
 cl := fun {x y} hx hy => L.cl hx ((qaq g hx).mp hy)
 n1 := fun {x n m} hx e lt => let ⟨y, hy, k⟩ := L.n1 hx e lt; ⟨y, (qaq g hx).mpr hy, k⟩
 n2 := fun {x y n} hx e hy => L.n2 hx e ((qaq g hx).mp hy)
 n3 := fun {x y n} hx e hy gt => let ⟨z, hz, k⟩ := L.n3 hx e ((qaq g hx).mp hy) gt; ⟨z, (qaq g (L.cl hx ((qaq g hx).mp hy))).mpr hz, k⟩
 n4 := fun {x y n m} hx e hy => L.n4 hx e ((qaq g hx).mp hy)
 e := fun {x m} hx e lo hi => by
   obtain ⟨y, hy, ey, ly⟩ := L.e hx e (fun j hj => let ⟨y, hy, k⟩ := lo j hj; ⟨y, (qaq g hx).mp hy, k⟩) (fun y hy => hi y ((qaq g hx).mpr hy))
   exact ⟨y, (qaq g hx).mpr hy, ey, fun z hz => ly z ((qaq g (L.cl hx hy)).mp hz)⟩
section
variable {P : Program} {w : World} {K : PySem.W.Frag} {mg : Str -> Option Value} {base : Heap}
abbrev nPl : List Str := ["ground", "thing"]
theorem scPl : FnScope nPl nPl (defScope sPlace) := ⟨rfl, rfl, rfl, by decide +kernel, rfl, by decide +kernel, by decide +kernel⟩
theorem ok_place {f CG : Addr} {fd : FuncData} (F : Fun K "need_place" "need_place" sPlace f fd) (G : KitG mg) (M : GM K mg CG) : FnOk P w K mg base CX0 2 f fd nPl (spPlace CG) := by
 obtain ⟨fC, fdC, C⟩ := M.cls
 obtain ⟨fN, fdN, hN⟩ := M.nm
 have GN : FnOk P w K mg base CX0 1 fN fdN ["self"] (spGNames CG) := ok_gnames hN.fn C G
 refine F.okJ scPl (fun vs H Q E h => ?_) (fun cdv A outer s H vs Q E hr h => ?_)
 . obtain ⟨g, rs, z, rfl, _⟩ := h
   rfl
 . obtain ⟨g, rs, z, rfl, gr, hz, q⟩ := h
   refine ⟨_, qae (qba (qak qcm (jv 1) (je_m0 hN C.cl GN hr (jv 0)) (by with_unfolding_all rfl)) qbb qap), ?_⟩
   obtain ⟨dx, fs, hg, l1, l2⟩ := gr.ins
   refine ⟨_, rfl, _, rfl, g, dx, fs, rfl, hg, l1, g, rs, rfl, gr, fun l hl => ⟨l, _, rfl, .inl (.of qab), rfl, qct _, _, rfl, ?_⟩⟩
   have e : inV (.str z) ((rs.map (·.1)).map V.str) = true := inV_str (by obtain ⟨r, hr', rfl⟩ := hz; exact List.mem_map.mpr ⟨r, hr', rfl⟩)
   show if (!inV (.str z) ((rs.map (·.1)).map V.str)) = true then _ else _
   rw [e]
   exact iteF (q _ (qaf hl))
abbrev nNH : List Str := ["ground", "heap", "thing"]
theorem scNH : FnScope nNH ["ground", "heap"] (defScope sNHeap) := ⟨rfl, rfl, rfl, by decide +kernel, rfl, by decide +kernel, by decide +kernel⟩
theorem ok_nheap {f fP CG : Addr} {fd fdP : FuncData} (F : Fun K "need_heap" "need_heap" sNHeap f fd) (B : Blt mg) (G : KitG mg) (T : KitP K mg) (M : GM K mg CG) (hP : Has K mg "need_place" sPlace nPl fP fdP) (mt : ∃ t, mg "MOST_TOKENS" = some (.int 8 t)) : FnOk P w K mg base CX0 3 f fd ["ground", "heap"] (spNHeap CG) := by
 have GP : FnOk P w K mg base CX0 2 fP fdP nPl (spPlace CG) := ok_place hP.fn G M
 obtain ⟨tk, hmt⟩ := mt
 refine F.okJ scNH (fun vs H Q E h => ?_) (fun cdv A outer s H vs Q E hr h => ?_)
 . obtain ⟨g, h', rs, hs, rfl, _⟩ := h
   rfl
 . obtain ⟨g, h', rs, hs, rfl, gr, hh, q⟩ := h
   refine ⟨_, qac (qba (jt_not (qbv (qan qbe (by rfl) T.isi boot_isinstance (qaa (jv 1) (qaa (qco (v := .ty "list") (by rfl) G.lst boot_list rfl) qad))))) qbb qap)
     (qac (qba (qak op_gt (qan qas (by rfl) B.len boot_len (qaa (jv 1) qad)) (je_glob (v := .int 8) (by rfl) hmt ⟨_, rfl⟩) (nomark _)) qbb qap)
     (qae (qbf PassesOwn.never rfl (qar (jv 1)) (qaj (i := 2) scNH.nd rfl (Or.inl rfl)) (qae (qbp (je_f hP GP hr (by rfl) (qaa (jv 0) (qaa (jv 2) qad)))))))), ?_⟩
   refine ⟨_, rfl, _, _, _, _, rfl, rfl, .lst hh.at_, T.kll, _, rfl, iteF ?_⟩
   refine ⟨_, rfl, h', _, rfl, .inl (.of hh.at_), _, _, rfl, rfl, _, rfl, qcx (decide_eq_false ?_) ?_⟩
   . have := hh.le
     rw [List.length_map]
     omega
   refine ⟨_, rfl, h', rfl, ⟨_, .of hh.at_⟩, ?_⟩
   refine qbh (K := K) (a := h') (xs := hs.map V.str) (fun i σ' G => ∃ v, σ' = [some (.ref g), some (.ref h'), v] /\ Same H G) ⟨_, rfl, Same.refl H⟩ (fun i σ' G _ ⟨_, _, s⟩ => .of (s _ _ hh.at_)) ?_ ?_
   . rintro i y σ' G hy ⟨v, rfl, sG⟩
     obtain ⟨z, ez, hz, rfl⟩ := strs_at hy
     exact ⟨_, rfl, _, rfl, g, rs, z, rfl, gr.mono sG, hh.in_ z hz, fun H' s' => ⟨_, rfl, sG.trans s'⟩⟩
   . rintro σ' G ⟨v, rfl, sG⟩
     exact q G sG
end
def wT (rs : Rws) (R : Rs Str) (z : Str) : W := match fOf R z with
 | some n => .num n
 | none => .edl (setN (nbs rs (fOf R) z))
theorem wT_num {rs : Rws} {R : Rs Str} {z : Str} {n : Nat} (e : fOf R z = some n) : wT rs R z = .num n := by unfold wT; rw [e]
theorem wT_edl {rs : Rws} {R : Rs Str} {z : Str} (e : fOf R z = none) : wT rs R z = .edl (setN (nbs rs (fOf R) z)) := by unfold wT; rw [e]
theorem wT_ok {rs : Rws} (good : GoodRows rs) {R : Rs Str} (L : Lab (gOf rs) (· ∈ rs.map (·.1)) (fOf R) (sOf R)) {z : Str} (hz : z ∈ rs.map (·.1)) : okW (wT rs R z) := by
 cases e : fOf R z with
 | some n =>
   rw [wT_num e]
   have := num_le good L hz e
   show n < 16
   omega
 | none =>
   rw [wT_edl e]
   show setN _ < 65536
   refine setN_lt (m := 16) fun x hx => ?_
   obtain ⟨y, hy, ey⟩ := qcj.mp hx
   have := num_le good L (L.cl hz hy) ey
   omega
theorem xorAll_xors (ns : List Nat) : xorAll ns = xors ns := by
 induction ns with
 | nil => rfl
 | cons n ns ih => rw [xorAll_cons, ih, xors_cons]
theorem numsW_map {rs : Rws} {R : Rs Str} : ∀ hs : List Str, numsW (hs.map (wT rs R)) = nums (fOf R) hs
 | [] => rfl
 | z :: hs => by
   unfold numsW nums
   rw [List.map_cons, List.filterMap_cons, List.filterMap_cons]
   have ih := numsW_map (rs := rs) (R := R) hs
   unfold numsW nums at ih
   cases e : fOf R z with
   | some n => rw [wT_num e, ih]
   | none => rw [wT_edl e, ih]
theorem setsW_len {rs : Rws} {R : Rs Str} : ∀ hs : List Str, (setsW (hs.map (wT rs R))).length = ends (fOf R) hs
 | [] => rfl
 | z :: hs => by
   unfold setsW ends
   rw [List.map_cons, List.filterMap_cons, List.filter_cons]
   have ih := setsW_len (rs := rs) (R := R) hs
   unfold setsW ends at ih
   cases e : fOf R z with
   | some n => rw [wT_num e]; exact ih
   | none => rw [wT_edl e]; show _ + 1 = _ + 1; rw [ih]
theorem setsW_mid {rs : Rws} {R : Rs Str} {p q : List Str} {x : Str} (ex : fOf R x = none) (he : ends (fOf R) (p ++ q) = 0) : setsW ((p ++ x :: q).map (wT rs R)) = [setN (nbs rs (fOf R) x)] := by
 have h1 : setsW ((p ++ q).map (wT rs R)) = [] := List.eq_nil_of_length_eq_zero (by rw [setsW_len]; exact he)
 unfold setsW at h1 ⊢
 rw [List.map_append, List.filterMap_append, List.append_eq_nil_iff] at h1
 rw [List.map_append, List.map_cons, List.filterMap_append, List.filterMap_cons, wT_edl ex, h1.1, h1.2]
 rfl
theorem out_is {rs : Rws} (good : GoodRows rs) {R : Rs Str} (L : Lab (gOf rs) (· ∈ rs.map (·.1)) (fOf R) (sOf R)) {hs : List Str} (hk : ∀ z ∈ hs, z ∈ rs.map (·.1)) :
   (Lost (mv (ldOf rs)) hs /\ outW (totW (hs.map (wT rs R))) = "lost") ∨ (Won (mv (ldOf rs)) hs /\ outW (totW (hs.map (wT rs R))) = "won") ∨ (¬ Lost (mv (ldOf rs)) hs /\ ¬ Won (mv (ldOf rs)) hs /\ outW (totW (hs.map (wT rs R))) = "drawn") := by
 have LL := labL good L
 have hl := setsW_len (rs := rs) (R := R) hs
 have en : xorAll (numsW (hs.map (wT rs R))) = xors (nums (fOf R) hs) := by rw [numsW_map, xorAll_xors]
 rw [lost_iff LL hk, won_iff LL hk]
 rcases Nat.lt_trichotomy (ends (fOf R) hs) 1 with c | c | c
 . have he : ends (fOf R) hs = 0 := by omega
   rw [he] at hl
   have e0 : setsW (hs.map (wT rs R)) = [] := List.eq_nil_of_length_eq_zero hl
   have et : totW (hs.map (wT rs R)) = .num (xors (nums (fOf R) hs)) := by unfold totW; rw [e0, ← en]
   have nd : ¬ Drawn (ldOf rs) (fOf R) hs := by
     rintro (⟨p, x, q, rfl, ex, _⟩ | h)
     . rw [qbq ex] at he; omega
     . omega
   rw [et]
   by_cases x0 : xors (nums (fOf R) hs) = 0
   . exact .inl ⟨⟨he, x0⟩, if_pos x0⟩
   . exact .inr (.inl ⟨⟨nd, fun z => x0 z.2⟩, if_neg x0⟩)
 . obtain ⟨p, x, q, rfl, ex⟩ := ends_pos.mp (by omega : 0 < ends (fOf R) hs)
   rw [qbq ex] at c
   have he : ends (fOf R) (p ++ q) = 0 := by omega
   have hx : x ∈ rs.map (·.1) := hk x (by simp)
   have lt : xors (nums (fOf R) (p ++ x :: q)) < 16 := by
     rw [← xorAll_xors]
     refine xorAll_lt fun n hn => ?_
     obtain ⟨z, hz, ez⟩ := List.mem_filterMap.mp hn
     have := num_le good L (hk z hz) ez
     omega
   have et : totW ((p ++ x :: q).map (wT rs R)) = .edl (turnN (setN (nbs rs (fOf R) x)) (xors (nums (fOf R) (p ++ x :: q))) 16) := by
     unfold totW
     rw [setsW_mid ex he, ← en]
   have nz : ¬ Zero (fOf R) (p ++ x :: q) := fun z => by have := z.1; rw [qbq ex] at this; omega
   have eb : (turnN (setN (nbs rs (fOf R) x)) (xors (nums (fOf R) (p ++ x :: q))) 16).testBit 0 = decide (xors (nums (fOf R) (p ++ q)) ∈ nbs rs (fOf R) x) := by
     rw [qbz lt, Nat.zero_xor, testBit_setN, nums_gap ex]
     simp
   rw [et]
   by_cases m : xors (nums (fOf R) (p ++ q)) ∈ nbs rs (fOf R) x
   . refine .inr (.inl ⟨⟨?_, nz⟩, ?_⟩)
     . obtain ⟨y, hy, ey⟩ := qcj.mp m
       have ly : y ∈ ldOf rs x := (qaq good hx).mpr hy
       intro d
       have zb : Zero (fOf R) (p ++ y :: q) := ⟨by rw [qbj ey]; exact he, by rw [qby ey, Nat.xor_self]⟩
       exact drawn_zero d ((qbt _).mpr ⟨p, x, y, q, rfl, ly, rfl⟩) zb
     . show (if _ then _ else _) = _
       rw [eb, if_pos (decide_eq_true m)]
   . have d : Drawn (ldOf rs) (fOf R) (p ++ x :: q) := .inl ⟨p, x, q, rfl, ex, he, fun y hy ey => m (qcj.mpr ⟨y, (qaq good hx).mp hy, ey⟩)⟩
     refine .inr (.inr ⟨nz, fun h => h.1 d, ?_⟩)
     show (if _ then _ else _) = _
     rw [eb, decide_eq_false m]
     rfl
 . have d : Drawn (ldOf rs) (fOf R) hs := .inr (by omega)
   have nz : ¬ Zero (fOf R) hs := fun z => by have := z.1; omega
   have et : totW (hs.map (wT rs R)) = .edl 0 := by
     unfold totW
     cases e : setsW (hs.map (wT rs R)) with
     | nil => rw [e] at hl; simp at hl; omega
     | cons a t =>
       cases t with
       | nil => rw [e] at hl; simp at hl; omega
       | cons b t => rfl
   rw [et]
   exact .inr (.inr ⟨nz, fun h => h.1 d, rfl⟩)
def spLW (CN CE : Addr) : Sp := fun vs H Q _ => ∃ (t : Addr) (rs : Rws) (R : Rs Str) (z : Str), vs = [.ref t] /\ H t = some (.tup (labT rs R z)) /\ okW (wT rs R z) /\ ∀ a H', Same H H' -> IsW CN CE H' a (wT rs R z) -> Q (.ref a) H'
def spWBy (CN CE : Addr) : Sp := fun vs H Q _ => ∃ (D h : Addr) (rs : Rws) (R : Rs Str) (hs : List Str), vs = [.ref D, .ref h] /\ LabsAt H D rs R /\ HeapAt H h rs hs /\ (∀ z ∈ hs, okW (wT rs R z)) /\ ∀ a H', Same H H' -> IsW CN CE H' a (totW (hs.map (wT rs R))) -> Q (.ref a) H'
def spHW (CG CN CE : Addr) : Sp := fun vs H Q _ => ∃ (g h : Addr) (rs : Rws) (hs : List Str), vs = [.ref g, .ref h] /\ GrAt CG H g rs /\ GoodRows rs /\ rs.length <= 14 /\ HeapAt H h rs hs ∧
 ∀ a H' R, Same H H' -> All (gOf rs) (rs.map (·.1)) 0 [] R -> IsW CN CE H' a (totW (hs.map (wT rs R))) -> Q (.ref a) H'
def spOutc (CG : Addr) : Sp := fun vs H Q _ => ∃ (g h : Addr) (rs : Rws) (hs : List Str), vs = [.ref g, .ref h] /\ GrAt CG H g rs /\ GoodRows rs /\ rs.length <= 14 /\ HeapAt H h rs hs ∧
 ∀ H' z, Same H H' -> ((Lost (mv (ldOf rs)) hs /\ z = Str.ofString "lost") ∨ (Won (mv (ldOf rs)) hs /\ z = Str.ofString "won") ∨ (¬ Lost (mv (ldOf rs)) hs /\ ¬ Won (mv (ldOf rs)) hs /\ z = Str.ofString "drawn")) -> Q (.str z) H'
section
variable {P : Program} {w : World} {K : PySem.W.Frag} {mg : Str -> Option Value} {base : Heap}
theorem scLW : FnScope ["label"] ["label"] (defScope sLW) := ⟨rfl, rfl, rfl, by decide +kernel, rfl, by decide +kernel, by decide +kernel⟩
theorem ok_lw {f : Addr} {fd : FuncData} (F : Fun K "label_worth" "label_worth" sLW f fd) (h : WF K mg) (B : Blt mg) (T : Wk K mg) : FnOk P w K mg base CX0 5 f fd ["label"] (spLW h.CN h.CE) := by
 refine F.okJ scLW (fun vs H Q E z => ?_) (fun cdv A outer s H vs Q E hr z => ?_)
 . obtain ⟨t, rs, R, z, rfl, _⟩ := z
   rfl
 . obtain ⟨t, rs, R, z, rfl, ht, ok, q⟩ := z
   refine ⟨_, qac (qba (qak op_eq (qbs qbu (jv 0) qag (fun _ _ => rfl)) qat (nomark _)) (qae (qal (je_make h.cN.mkr (h.gNI B T) hr (by rfl) h.cN.ns h.cN.bi .nil pass0 (qaa (qbs qbu (jv 0) qag (fun _ _ => rfl)) qad)))) qap)
     (qae (qal (je_make h.cE.mkr (h.gEI B T) hr (by rfl) h.cE.ns h.cE.bi .nil pass0 (qaa (qbs qbu (jv 0) qag (fun _ _ => rfl)) qad)))), ?_⟩
   cases e : fOf R z with
   | some n =>
     rw [wT_num e] at ok q
     have el : labT rs R z = [.str "number", .int (n : Nat), .int (sOf R z : Nat)] := by unfold labT; rw [e]
     rw [el] at ht
     refine ⟨_, rfl, t, _, 0, _, rfl, rfl, .of ht, rfl, rfl, _, rfl, iteT_of (by decide +kernel) ?_⟩
     refine ⟨_, rfl, t, _, 1, _, rfl, rfl, .of ht, rfl, fun x dx hx hd hne => ⟨x, dx, _, rfl, by omega, ?_, qab, rfl, ?_⟩⟩
     . have : n < 16 := ok
       omega
     . obtain ⟨s1, i1⟩ := new_num (CN := h.CN) (CE := h.CE) (n := n) hx hd hne
       exact q _ _ s1 i1
   | none =>
     rw [wT_edl e] at ok q
     have el : labT rs R z = [.str "endless", .int (setN (nbs rs (fOf R) z) : Nat)] := by unfold labT; rw [e]
     rw [el] at ht
     refine ⟨_, rfl, t, _, 0, _, rfl, rfl, .of ht, rfl, rfl, _, rfl, qcx (by decide +kernel) ?_⟩
     refine ⟨_, rfl, t, _, 1, _, rfl, rfl, .of ht, rfl, fun x dx hx hd hne => ⟨x, dx, _, rfl, by omega, ?_, qab, rfl, ?_⟩⟩
     . have : setN (nbs rs (fOf R) z) < 65536 := ok
       omega
     . obtain ⟨s1, i1⟩ := new_edl (CN := h.CN) (CE := h.CE) (b := setN (nbs rs (fOf R) z)) hx hd hne
       exact q _ _ s1 i1
theorem scWBy : FnScope ["labels", "heap"] ["labels", "heap"] (defScope sWBy) := ⟨rfl, rfl, rfl, by decide +kernel, rfl, by decide +kernel, by decide +kernel⟩
theorem ok_wby {f fL fS : Addr} {fd fdL fdS : FuncData} (F : Fun K "worth_by" "worth_by" sWBy f fd) (h : WF K mg) (B : Blt mg) (T : Wk K mg) (hL : Has K mg "label_worth" sLW ["label"] fL fdL) (hS : Has K mg "sum_of" sSumOf ["worths"] fS fdS) : FnOk P w K mg base CX0 8 f fd ["labels", "heap"] (spWBy h.CN h.CE) := by
 have GL : FnOk P w K mg base CX0 5 fL fdL ["label"] (spLW h.CN h.CE) := ok_lw hL.fn h B T
 have GS : FnOk P w K mg base CX0 7 fS fdS ["worths"] (spSumOf K h.CN h.CE) := ok_sumof hS.fn h B T
 refine F.okJ scWBy (fun vs H Q E z => ?_) (fun cdv A outer s H vs Q E hr z => ?_)
 . obtain ⟨D, h', rs, R, hs, rfl, _⟩ := z
   rfl
 . obtain ⟨D, h', rs, R, hs, rfl, lb, hh, ok, q⟩ := z
   have hu := hu_of hr
   have r4 : Room 5 _ := hr.mono (by decide)
   refine ⟨_, qae (qal (je_f hS GS hr (by rfl) (qaa (qcg (N' := ["place", "labels"]) (ix := [none, some 0]) (te := tCall (spLW h.CN h.CE) [] E0 (tCons (tDGet (tVar 1) (tVar 0)) tNil)) rfl ⟨rfl, rfl, rfl, rfl, rfl⟩ (qar (jv 1)) (fun C s2 H2 fp pins =>
       ⟨qaj (i := 0) (show (["place", "labels"] : List Str).Nodup by decide +kernel) rfl (Or.inl rfl), qbo, je_f hL GL r4 (by rfl) (qaa (qbd hu (jv 1) (jv 0) (fun _ _ => rfl)) qad)⟩)) qad))), ?_⟩
   refine ⟨_, rfl, h', rfl, ⟨_, .of hh.at_⟩, fun W hW => ?_⟩
   refine qbk (K := K) (a := h') (xs := hs.map V.str) (fun j σ'' G => ∃ (v0 : Option V) (as : List Addr), σ'' = [v0, some (.ref D)] /\ Same H G /\ G W = some (.lst (as.map V.ref)) /\ Wl h.CN h.CE G as ((hs.take j).map (wT rs R)))
     ⟨none, [], rfl, qaf hW, qab, rfl, fun i a u e => (nomatch e)⟩ (fun j σ'' G _ ⟨_, _, _, s, _⟩ => .of (s _ _ hh.at_)) ?_ ?_
   . rintro j y σ'' G hy ⟨v0, as, rfl, sG, hG, wl⟩
     obtain ⟨z, ez, hz, rfl⟩ := strs_at hy
     obtain ⟨kvs, hD, _, hv⟩ := (lb.mono sG).at_
     obtain ⟨r, hr', er⟩ := hh.in_ z hz
     obtain ⟨t, et, ht⟩ := hv r hr'
     rw [er] at et ht
     refine ⟨_, rfl, _, rfl, D, _, rfl, by rw [← et]; exact DGet.k (k := (Sum.inr z : Key)) hD, t, rs, R, z, rfl, ht, ok z hz, fun a G1 s1 ia => ?_⟩
     have l8 := hh.le
     have lw := wl.1
     rw [List.length_map, List.length_take] at lw
     have nW : H W = none := hW
     refine ⟨_, s1 _ _ hG, by rw [List.length_map]; exact small1000 (by omega), _, as ++ [a], rfl, Same.upd (sG.trans s1) hW, by rw [List.map_append]; exact qab, ?_⟩
     have up : ∀ {b : Addr} {u : Rb.W}, IsW h.CN h.CE G1 b u -> IsW h.CN h.CE (upd G1 W (.lst (as.map V.ref ++ [V.ref a]))) b u := fun {b u} hb => by
       have hW1 := s1 _ _ hG
       cases u with
       | num n => obtain ⟨dx, e⟩ := hb; exact ⟨dx, by rw [qah (fun q => by rw [q, hW1] at e; cases e)]; exact e⟩
       | edl n => obtain ⟨dx, e⟩ := hb; exact ⟨dx, by rw [qah (fun q => by rw [q, hW1] at e; cases e)]; exact e⟩
     rw [List.take_add_one, ez, List.map_append]
     refine ⟨by rw [List.length_append, List.length_append, wl.1]; rfl, fun i b u e1 e2 => ?_⟩
     rcases qce e1 with ⟨i1, e1⟩ | ⟨i1, rfl⟩
     . rcases qce (show (List.map (wT rs R) (hs.take j) ++ [wT rs R z])[i]? = some u from e2) with ⟨_, e2⟩ | ⟨i2, _⟩
       . exact up ((wl.2 i b u e1 e2).same s1)
       . have := wl.1; omega
     . rcases qce (show (List.map (wT rs R) (hs.take j) ++ [wT rs R z])[i]? = some u from e2) with ⟨i2, _⟩ | ⟨_, rfl⟩
       . have := wl.1; omega
       . exact up ia
   . rintro σ'' G ⟨v0, as, rfl, sG, hG, wl⟩
     rw [List.length_map, List.take_of_length_le (Nat.le_refl _)] at wl
     refine ⟨W, as, _, rfl, .of hG, wl, fun u hu => ?_, fun H' r s' i' => q r H' (sG.trans s') i'⟩
     obtain ⟨z, hz, rfl⟩ := List.mem_map.mp hu
     exact ok z hz
structure HasO (K : PySem.W.Frag) (mg : Str -> Option Value) : Prop where
 place : ∃ f fd, Has K mg "need_place" sPlace nPl f fd
 heap : ∃ f fd, Has K mg "need_heap" sNHeap ["ground", "heap"] f fd
 lw : ∃ f fd, Has K mg "label_worth" sLW ["label"] f fd
 sum : ∃ f fd, Has K mg "sum_of" sSumOf ["worths"] f fd
 wby : ∃ f fd, Has K mg "worth_by" sWBy ["labels", "heap"] f fd
 hw : ∃ f fd, Has K mg "heap_worth" sHW ["ground", "heap"] f fd
 outc : ∃ f fd, Has K mg "outcome" sOutc ["ground", "heap"] f fd
 most : ∃ t, mg "MOST_TOKENS" = some (.int 8 t)
theorem scHW : FnScope ["ground", "heap"] ["ground", "heap"] (defScope sHW) := ⟨rfl, rfl, rfl, by decide +kernel, rfl, by decide +kernel, by decide +kernel⟩
theorem ok_hw {f CG : Addr} {fd : FuncData} (F : Fun K "heap_worth" "heap_worth" sHW f fd) (h : WF K mg) (B : Blt mg) (Z : Wk K mg) (G : KitG mg) (T : KitP K mg) (M : GM K mg CG) (Y : HasB K mg) (O : HasO K mg) : FnOk P w K mg base CX0 9 f fd ["ground", "heap"] (spHW CG h.CN h.CE) := by
 obtain ⟨fP, fdP, hP⟩ := O.place
 obtain ⟨fH, fdH, hH⟩ := O.heap
 obtain ⟨fL, fdL, hL⟩ := O.lw
 obtain ⟨fS, fdS, hS⟩ := O.sum
 obtain ⟨fW, fdW, hW⟩ := O.wby
 obtain ⟨fB, fdB, hB⟩ := Y.labels
 have GH : FnOk P w K mg base CX0 3 fH fdH ["ground", "heap"] (spNHeap CG) := ok_nheap hH.fn B G T M hP O.most
 have GW : FnOk P w K mg base CX0 8 fW fdW ["labels", "heap"] (spWBy h.CN h.CE) := ok_wby hW.fn h B Z hL hS
 have GB : FnOk P w K mg base CX0 8 fB fdB ["ground"] (spLabels CG) := ok_labels hB.fn B G T M Y
 refine F.okJ scHW (fun vs H Q E z => ?_) (fun cdv A outer s H vs Q E hr z => ?_)
 . obtain ⟨g, h', rs, hs, rfl, _⟩ := z
   rfl
 . obtain ⟨g, h', rs, hs, rfl, gr, good, le, hh, q⟩ := z
   refine ⟨_, qac (qbp (je_f hH GH (hr.mono (by decide)) (by rfl) (qaa (jv 0) (qaa (jv 1) qad))))
     (qae (qal (je_f hW GW hr (by rfl) (qaa (je_f hB GB hr (by rfl) (qaa (jv 0) qad)) (qaa (jv 1) qad))))), ?_⟩
   refine ⟨_, rfl, _, rfl, g, h', rs, hs, rfl, gr, hh, fun H1 s1 => ?_⟩
   refine ⟨_, rfl, g, rs, rfl, gr.mono s1, good, le, fun H2 D R s2 hD lb all => ?_⟩
   have L := labs (gOf_cl good.nd) all
   refine ⟨_, rfl, D, h', rs, R, hs, rfl, lb, (hh.mono s1).mono s2, fun z hz => ?_, fun a H3 s3 i3 => q a H3 R (s1.trans (s2.trans s3)) all i3⟩
   obtain ⟨r, hr', e⟩ := hh.in_ z hz
   exact wT_ok good L (List.mem_map.mpr ⟨r, hr', e⟩)
theorem scOutc : FnScope ["ground", "heap"] ["ground", "heap"] (defScope sOutc) := ⟨rfl, rfl, rfl, by decide +kernel, rfl, by decide +kernel, by decide +kernel⟩
theorem ok_outc {f CG : Addr} {fd : FuncData} (F : Fun K "outcome" "outcome" sOutc f fd) (h : WF K mg) (B : Blt mg) (Z : Wk K mg) (G : KitG mg) (T : KitP K mg) (M : GM K mg CG) (Y : HasB K mg) (O : HasO K mg) : FnOk P w K mg base CX0 10 f fd ["ground", "heap"] (spOutc CG) := by
 obtain ⟨fW, fdW, hW⟩ := O.hw
 have GW : FnOk P w K mg base CX0 9 fW fdW ["ground", "heap"] (spHW CG h.CN h.CE) := ok_hw hW.fn h B Z G T M Y O
 refine F.okJ scOutc (fun vs H Q E z => ?_) (fun cdv A outer s H vs Q E hr z => ?_)
 . obtain ⟨g, h', rs, hs, rfl, _⟩ := z
   rfl
 . obtain ⟨g, h', rs, hs, rfl, gr, good, le, hh, q⟩ := z
   refine ⟨_, qae (qal (je_outc h B (hr.mono (by decide)) (je_f hW GW hr (by rfl) (qaa (jv 0) (qaa (jv 1) qad))))), ?_⟩
   refine ⟨_, rfl, _, rfl, g, h', rs, hs, rfl, gr, good, le, hh, fun a H1 R s1 all i1 => ⟨a, _, rfl, i1, ?_, fun H2 s2 => ?_⟩⟩
   . refine tot_ok fun u hu => ?_
     obtain ⟨z, hz, rfl⟩ := List.mem_map.mp hu
     obtain ⟨r, hr', e⟩ := hh.in_ z hz
     exact wT_ok good (labs (gOf_cl good.nd) all) (List.mem_map.mpr ⟨r, hr', e⟩)
   . exact q H2 _ (s1.trans s2) (out_is good (labs (gOf_cl good.nd) all) fun z hz => let ⟨r, hr', e⟩ := hh.in_ z hz; List.mem_map.mpr ⟨r, hr', e⟩)
end
end Rh
set_option Elab.async false
set_option linter.all false
set_option maxRecDepth 100000
set_option maxHeartbeats 4000000
namespace Rh
open PySem L2 PyProof.Rows MLab Rb
abbrev sMovesOf : Stmt := top 29
abbrev sLeft : Stmt := top 30
abbrev sOBy : Stmt := top 55
abbrev sOsBy : Stmt := top 56
abbrev sOAf : Stmt := top 59
abbrev sLHeap : Stmt := top 67
def mvT (rs : Rws) (j : Nat) (z : Str) : List (Nat × Str) := (gOf rs z).map fun e => (j, e)
def mvs (rs : Rws) (hs : List Str) (n : Nat) : List (Nat × Str) := (List.range n).flatMap fun j => mvT rs j (zAt hs j)
theorem mvs_succ (rs : Rws) (hs : List Str) (n : Nat) : mvs rs hs (n + 1) = mvs rs hs n ++ mvT rs n (zAt hs n) := by
 unfold mvs
 rw [List.range_succ, List.flatMap_append]
 simp
def mvV (m : Nat × Str) : List V := [.int (m.1 : Int), .str m.2]
def MvAt (H : Hp) (ps : List Addr) (ms : List (Nat × Str)) : Prop := ps.length = ms.length /\ ∀ (i : Nat) (p : Addr) (m : Nat × Str), ps[i]? = some p -> ms[i]? = some m -> H p = some (.tup (mvV m))
theorem MvAt.mono {H H' : Hp} {ps : List Addr} {ms : List (Nat × Str)} (h : MvAt H ps ms) (s : Same H H') : MvAt H' ps ms := ⟨h.1, fun i p m e1 e2 => s _ _ (h.2 i p m e1 e2)⟩
theorem MvAt.nil (H : Hp) : MvAt H [] [] := ⟨rfl, fun i p m e => by simp at e⟩
theorem MvAt.app {H : Hp} {ps qs : List Addr} {ms ns : List (Nat × Str)} (h : MvAt H ps ms) (k : MvAt H qs ns) : MvAt H (ps ++ qs) (ms ++ ns) := by
 refine ⟨by rw [List.length_append, List.length_append, h.1, k.1], fun i p m e1 e2 => ?_⟩
 by_cases hi : i < ps.length
 . rw [List.getElem?_append_left hi] at e1
   rw [List.getElem?_append_left (by rw [← h.1]; exact hi)] at e2
   exact h.2 i p m e1 e2
 . have hi' : ps.length <= i := Nat.le_of_not_lt hi
   rw [List.getElem?_append_right hi'] at e1
   rw [List.getElem?_append_right (by rw [← h.1]; exact hi'), ← h.1] at e2
   exact k.2 _ p m e1 e2
theorem MvAt.one {H : Hp} {p : Addr} {m : Nat × Str} (h : H p = some (.tup (mvV m))) : MvAt H [p] [m] := by
 refine ⟨rfl, fun i p' m' e1 e2 => ?_⟩
 cases i with
 | zero => cases e1; cases e2; exact h
 | succ i => simp at e1
theorem mvs_len {rs : Rws} {hs : List Str} (g : GoodRows rs) (le : rs.length <= 14) (hi : ∀ z ∈ hs, ∃ r ∈ rs, r.1 = z) : ∀ n, n <= hs.length -> (mvs rs hs n).length <= n * 14
 | 0, _ => Nat.le_refl _
 | n + 1, h => by
   rw [mvs_succ, List.length_append]
   have h1 := mvs_len g le hi n (Nat.le_of_lt h)
   obtain ⟨r, hr, e⟩ := hi _ (zAt_mem h)
   have h2 := gOf_len (rs := rs) (zAt hs n)
   unfold mvT
   rw [List.length_map]
   omega
theorem isName_in {rs : Rws} (g : GoodRows rs) {z : Str} (h : ∃ r ∈ rs, r.1 = z) : isName z = true := by
 obtain ⟨r, hr, rfl⟩ := h
 exact g.nm r hr
def spMoves (CG : Addr) : Sp := fun vs H Q _ => ∃ (g h : Addr) (rs : Rws) (hs : List Str), vs = [.ref g, .ref h] /\ GrAt CG H g rs /\ GoodRows rs /\ rs.length <= 14 /\ HeapAt H h rs hs ∧
 ∀ H' l ps, Same H H' -> H l = none -> H' l = some (.lst (ps.map V.ref)) -> MvAt H' ps (mvs rs hs hs.length) -> Q (.ref l) H'
def mD (m : Nat × Str) : PyData := .tuple [.int (m.1 : Int), .str m.2]
theorem DV_mv {K : PySem.W.Frag} {H : Hp} {p : Addr} {m : Nat × Str} (h : H p = some (.tup (mvV m))) : DV K H (.ref p) (mD m) := .tup (.of h) (.cons (.int _) (.cons (.str _) .nil))
theorem mvs_mem {rs : Rws} {hs : List Str} {n : Nat} {m : Nat × Str} (h : m ∈ mvs rs hs n) : m.1 < n /\ m.2 ∈ gOf rs (zAt hs m.1) := by
 unfold mvs at h
 obtain ⟨j, hj, h2⟩ := List.mem_flatMap.mp h
 obtain ⟨e, he, rfl⟩ := List.mem_map.mp h2
 exact ⟨List.mem_range.mp hj, he⟩
theorem mvs_name {rs : Rws} {hs : List Str} (g : GoodRows rs) (hi : ∀ z ∈ hs, ∃ r ∈ rs, r.1 = z) : ∀ m ∈ mvs rs hs hs.length, isName m.2 = true := fun m hm => by
 obtain ⟨h1, h2⟩ := mvs_mem hm
 obtain ⟨r, hr, e⟩ := hi _ (zAt_mem h1)
 rw [← e, gOf_row g.nd hr] at h2
 exact isName_in g (rdOf_row h2)
def spLeft : Sp := fun vs H Q _ => ∃ (h p : Addr) (hs : List Str) (m : Nat × Str), vs = [.ref h, .ref p] /\ H h = some (.lst (hs.map V.str)) /\ H p = some (.tup (mvV m)) /\ m.1 < hs.length /\ ∀ l, H l = none -> Q (.ref l) (upd H l (.lst ((hs.set m.1 m.2).map V.str)))
theorem atI_get {xs : List V} {r : Int} (h0 : 0 <= r) (h1 : r < (xs.length : Int)) : ∃ v, atI xs r = some v /\ xs[r.toNat]? = some v := by
 have : r.toNat < xs.length := by omega
 refine ⟨xs[r.toNat], ?_, List.getElem?_eq_getElem this⟩
 unfold atI ixN
 rw [if_pos h0, if_pos h1]
 exact List.getElem?_eq_getElem this
def spLHeap : Sp := fun vs H Q _ => ∃ (d l : Addr) (mo : Nat) (n s t : Int) (ps : List Addr) (rs : Rws), vs = [.ref d, .ref l, .int (mo : Int)] /\ H d = some (.dK (src n s t)) /\ GoodAt H l ps rs /\ mo <= 8 ∧
 ∀ (D : Addr) (hs : List Str) (n' t' : Int) (H' : Hp), H D = none -> H' D = some (.lst (hs.map V.str)) -> hs.length <= mo -> (∀ z ∈ hs, ∃ r ∈ rs, r.1 = z) -> H' d = some (.dK (src n' s t')) -> Fr H d H' -> Q (.ref D) H'
theorem GoodAt.fr' {H H' : Hp} {l d : Addr} {ps : List Addr} {rs : Rws} {kv : List (Key × V)} (h : GoodAt H l ps rs) (hd : H d = some (.dK kv)) (s : Fr H d H') : GoodAt H' l ps rs := by
 refine ⟨s _ _ h.at_ (fun e => ?_), ⟨h.rows.1, fun i p r e1 e2 => ?_⟩, h.good, h.pos, h.le⟩
 . have := h.at_
   rw [e, hd] at this
   cases this
 . obtain ⟨q, a, b⟩ := h.rows.2 i p r e1 e2
   exact ⟨q, s _ _ a (fun e => by rw [e, hd] at a; cases a), s _ _ b (fun e => by rw [e, hd] at b; cases b)⟩
section
variable {P : Program} {w : World} {K : PySem.W.Frag} {mg : Str -> Option Value} {base : Heap}
abbrev nMo : List Str := ["ground", "heap", "moves", "token", "place"]
theorem scMo : FnScope nMo ["ground", "heap"] (defScope sMovesOf) := ⟨rfl, rfl, rfl, by decide +kernel, rfl, by decide +kernel, by decide +kernel⟩
theorem ok_moves {f fH fP CG : Addr} {fd fdH fdP : FuncData} (F : Fun K "moves_of" "moves_of" sMovesOf f fd) (B : Blt mg) (G : KitG mg) (T : KitP K mg) (M : GM K mg CG) (hP : Has K mg "need_place" sPlace nPl fP fdP) (mt : ∃ t, mg "MOST_TOKENS" = some (.int 8 t))
   (hH : Has K mg "need_heap" sNHeap ["ground", "heap"] fH fdH) : FnOk P w K mg base CX0 4 f fd ["ground", "heap"] (spMoves CG) := by
 obtain ⟨fC, fdC, C⟩ := M.cls
 obtain ⟨fR, fdR, hR⟩ := M.fr
 obtain ⟨fN, fdN, hN⟩ := M.isn
 have GH : FnOk P w K mg base CX0 3 fH fdH ["ground", "heap"] (spNHeap CG) := ok_nheap hH.fn B G T M hP mt
 have GR : FnOk P w K mg base CX0 2 fR fdR ["self", "name"] (spGFrom CG) := ok_gfrom hR.fn C B G T hN
 refine F.okJ scMo (fun vs H Q E h => ?_) (fun cdv A outer s H vs Q E hr h => ?_)
 . obtain ⟨g, h', rs, hs, rfl, _⟩ := h
   rfl
 . obtain ⟨g, h', rs, hs, rfl, gr, gd, le, hh, q⟩ := h
   have r2 : Room 2 (A.deeper (envOfC "moves_of" (defScope sMovesOf) s.heap.objs.size f cdv)) := hr.mono (by decide)
   refine ⟨_, qac (qbp (je_f hH GH hr (by rfl) (qaa (jv 0) (qaa (jv 1) qad))))
     (qac (qao (i := 2) scMo.nd rfl (Or.inl rfl) (qck qad))
     (qac (qbf PassesOwn.never rfl (ji_enum (by rfl) T.enu (qaa (jv 1) qad)) (jg_tup rfl (qbg (qaj (i := 3) scMo.nd rfl (Or.inr rfl)) (qbg (qaj (i := 4) scMo.nd rfl (Or.inl rfl)) jgs_nil)))
       (qae (qbp (je_bm PySem.F.plainAttrs_list PySem.F.slot_list_extend PySem.F.type_list_extend mt_extend (jv 2) (qaa
         (qcg (N' := ["end", "token"]) (ix := [none, some 3]) (te := tTup (tCons (tVar 1) (tCons (tVar 0) tNil))) rfl ⟨rfl, rfl, rfl, rfl, rfl⟩ (qar (je_m1 hR C.cl GR r2 (jv 0) (qaa (jv 4) qad))) (fun C s2 H2 fp pins =>
           ⟨qaj (i := 0) (show (["end", "token"] : List Str).Nodup by decide +kernel) rfl (Or.inl rfl), qbo, qcb (qaa (jv 1) (qaa (jv 0) qad))⟩)) qad)))))
     (qae (qal (jv 2))))), ?_⟩
   refine ⟨_, rfl, _, rfl, g, h', rs, hs, rfl, gr, hh, fun H1 s1 => ?_⟩
   refine ⟨by show 0 <= sizeLine; decide, fun l hl => ?_⟩
   have hl0 : H l = none := by
     cases z : H l with
     | none => rfl
     | some u => rw [s1 _ _ z] at hl; cases hl
   have s2 : Same H (upd H1 l (.lst [])) := s1.trans (qaf hl)
   have hl2 : upd H1 l (.lst []) l = some (.lst []) := qab
   generalize upd H1 l (.lst []) = H2 at s2 hl2
   refine ⟨_, rfl, h', rfl, ⟨_, .of (s2 _ _ hh.at_)⟩, ?_⟩
   refine for_enum (K := K) (a := h') (xs := hs.map V.str) (fun i σ' G => ∃ v3 v4 ps, σ' = [some (.ref g), some (.ref h'), some (.ref l), v3, v4] /\ Same H G /\ G l = some (.lst (ps.map V.ref)) /\ MvAt G ps (mvs rs hs i))
     ⟨_, _, [], rfl, s2, hl2, MvAt.nil _⟩ (fun i σ' G _ ⟨_, _, _, _, s, _⟩ => .of (s _ _ hh.at_)) ?_ ?_
   . rintro i y σ' G p hy hp ⟨v3, v4, ps, rfl, sG, hlG, mv⟩
     obtain ⟨z, ez, hz, rfl⟩ := strs_at hy
     have hi := (List.getElem?_eq_some_iff.mp ez).1
     have ezz : zAt hs i = z := by
       have := zAt_get hi
       rw [ez] at this
       exact (Option.some.inj this).symm
     refine ⟨p, _, rfl, .of qab, rfl, _, _, rfl, _, _, rfl, rfl, ?_⟩
     have sP : Same G (upd G p (.tup [.int (i : Nat), .str z])) := qaf hp
     have sGP := sG.trans sP
     have hlP := sP _ _ hlG
     have mvP := mv.mono sP
     generalize upd G p (.tup [.int (i : Nat), .str z]) = G1 at sP sGP hlP mvP
     obtain ⟨r, hr', er⟩ := hh.in_ z hz
     obtain ⟨dx, fs, hg, l1, l2⟩ := (gr.mono sGP).ins
     refine ⟨_, rfl, .inl ⟨rfl, _, .of hlP⟩, _, rfl, g, dx, fs, rfl, hg, l2, _, rfl, g, rs, r, by rw [er]; rfl, gr.mono sGP, hr', gd.nm r hr', fun G2 e s2' he => ?_⟩
     have sE : Same G1 (upd G2 e (.lst ((rdOf rs r).map V.str))) := s2'.trans (qaf he)
     have hE : upd G2 e (.lst ((rdOf rs r).map V.str)) e = some (.lst ((rdOf rs r).map V.str)) := qab
     generalize upd G2 e (.lst ((rdOf rs r).map V.str)) = G3 at sE hE
     refine ⟨e, rfl, ⟨_, .of hE⟩, fun D hD => ?_⟩
     refine qbk (K := K) (a := e) (xs := (rdOf rs r).map V.str) (fun j σ'' G4 => ∃ v0 qs, σ'' = [v0, some (.int (i : Nat))] /\ Same G3 G4 /\ G4 D = some (.lst (qs.map V.ref)) /\ MvAt G4 qs (((rdOf rs r).take j).map fun y => (i, y)))
       ⟨none, [], rfl, qaf hD, qab, MvAt.nil _⟩ (fun j σ'' G4 _ ⟨_, _, _, s, _⟩ => .of (s _ _ hE)) ?_ ?_
     . rintro j y σ'' G4 hy ⟨v0, qs, rfl, s4, hD4, mq⟩
       obtain ⟨x, ex, hx, rfl⟩ := strs_at hy
       have hj := (List.getElem?_eq_some_iff.mp ex).1
       refine ⟨_, rfl, _, rfl, by show 2 <= sizeLine; decide, fun t ht => ⟨_, qai hD4 ht, ?_, _, qs ++ [t], rfl, ?_, ?_, ?_⟩⟩
       . rw [List.length_map, mq.1, List.length_map, List.length_take]
         have := rd_len (rs := rs) r
         exact small1000 (by omega)
       . exact Same.upd (s4.trans (qaf ht)) hD
       . rw [qab, List.map_append]
         rfl
       . have nt : t ≠ D := fun z => by rw [z, hD4] at ht; cases ht
         have e1 : MvAt (upd (upd G4 t (.tup [.int (i : Nat), .str x])) D (.lst (qs.map V.ref ++ [.ref t]))) qs (((rdOf rs r).take j).map fun y => (i, y)) := ⟨mq.1, fun k p' m a b => by
           have z := mq.2 k p' m a b
           have n1 : p' ≠ D := fun e => by rw [e, hD4] at z; cases z
           rw [qah n1]
           exact qai z ht⟩
         rw [List.take_add_one, ex, List.map_append]
         exact e1.app (MvAt.one (by rw [qah nt]; exact qab))
     . rintro σ'' G4 ⟨v0, qs, rfl, s4, hD4, mq⟩
       rw [List.length_map, List.take_of_length_le (Nat.le_refl _)] at mq
       have sHG : Same H G4 := (sGP.trans sE).trans s4
       have hl4 := s4 _ _ (sE _ _ hlP)
       have mv4 := (mvP.mono sE).mono s4
       have ml := mvs_len gd le hh.in_ i (Nat.le_of_lt hi)
       have l8 := hh.le
       have rl := rd_len (rs := rs) r
       refine ⟨l, D, _, _, rfl, rfl, hl4, hD4, ?_, ?_⟩
       . rw [List.length_map, List.length_map, mv4.1, mq.1, List.length_map]
         exact Nat.le_of_lt (small1000 (by omega))
       . refine ⟨_, _, ps ++ qs, rfl, Same.upd sHG hl0, by rw [qab, List.map_append], ?_⟩
         rw [mvs_succ, ezz, mvT, ← er, gOf_row gd.nd hr']
         have ne : ∀ {p' : Addr} {m : Nat × Str}, G4 p' = some (.tup (mvV m)) -> p' ≠ l := fun h e => by rw [e, hl4] at h; cases h
         have up : ∀ {ps : List Addr} {ms : List (Nat × Str)}, MvAt G4 ps ms -> MvAt (upd G4 l (.lst (List.map V.ref ps ++ List.map V.ref qs))) ps ms := fun h => ⟨h.1, fun k p' m a b => by
           have z := h.2 k p' m a b
           rw [qah (ne z)]
           exact z⟩
         refine MvAt.app ?_ ?_
         . exact ⟨mv4.1, fun k p' m a b => by
             have z := mv4.2 k p' m a b
             rw [qah (ne z)]
             exact z⟩
         . exact ⟨mq.1, fun k p' m a b => by
             have z := mq.2 k p' m a b
             rw [qah (ne z)]
             exact z⟩
   . rintro σ' G ⟨v3, v4, ps, rfl, sG, hlG, mv⟩
     rw [List.length_map] at mv
     exact ⟨_, rfl, q G l ps sG hl0 hlG mv⟩
abbrev nLy : List Str := ["heap", "move", "left"]
theorem scLy : FnScope nLy ["heap", "move"] (defScope sLeft) := ⟨rfl, rfl, rfl, by decide +kernel, rfl, by decide +kernel, by decide +kernel⟩
theorem ok_left {f : Addr} {fd : FuncData} (F : Fun K "left_by" "left_by" sLeft f fd) (G : KitG mg) : FnOk P w K mg base CX0 1 f fd ["heap", "move"] spLeft := by
 refine F.okJ scLy (fun vs H Q E h => ?_) (fun cdv A outer s H vs Q E hr h => ?_)
 . obtain ⟨h', p, hs, m, rfl, _⟩ := h
   rfl
 . obtain ⟨h', p, hs, m, rfl, hh, hp, hm, q⟩ := h
   refine ⟨_, qac (qao (i := 2) scLy.nd rfl (Or.inl rfl) (qbn qcd (by rfl) G.lst boot_list (qaa (jv 0) qad)))
     (qac (js_asg (qbs qbu (jv 1) qag (fun _ _ => rfl)) (jg_sub (jv 2) (qbs qbu (jv 1) qag (fun _ _ => rfl)) set_list))
     (qae (qal (jv 2)))), ?_⟩
   refine ⟨_, rfl, h', _, rfl, .inl (.of hh), fun l hl => ?_⟩
   refine ⟨_, rfl, p, _, 1, _, rfl, rfl, .of (qai hp hl), rfl, _, rfl, _, rfl, p, _, 0, _, rfl, rfl, .of (qai hp hl), rfl, l, _, (m.1 : Int), m.1, rfl, rfl, qab, ?_, _, rfl, ?_⟩
   . unfold ixN
     rw [if_pos (by omega), if_pos (by rw [List.length_map]; omega)]
     rfl
   . have e : (hs.map V.str).set m.1 (.str m.2) = (hs.set m.1 m.2).map V.str := by rw [List.map_set]
     rw [qbl, e]
     exact q l hl
abbrev nLH : List Str := ["_law_source_here", "_law_rows_here", "_law_most"]
theorem scLH : FnScope nLH nLH (defScope sLHeap) := ⟨rfl, rfl, rfl, by decide +kernel, rfl, by decide +kernel, by decide +kernel⟩
theorem ok_lheap {f fT : Addr} {fd fdT : FuncData} (F : Fun K "_law_heap" "_law_heap" sLHeap f fd) (B : Blt mg) (hT : Has K mg "_law_take" sTake ["_law_source_here", "_law_many"] fT fdT) : FnOk P w K mg base CX0 2 f fd nLH spLHeap := by
 have GT : FnOk P w K mg base CX0 1 fT fdT ["_law_source_here", "_law_many"] spTake := ok_take hT.fn
 refine F.okJ scLH (fun vs H Q E h => ?_) (fun cdv A outer s H vs Q E hr h => ?_)
 . obtain ⟨d, l, mo, n, sd, t, ps, rs, rfl, _⟩ := h
   rfl
 . obtain ⟨d, l, mo, n, sd, t, ps, rs, rfl, hd, g, mo8, q⟩ := h
   refine ⟨_, qae (qal (qcg (N' := ["_law_k", "_law_rows_here", "_law_source_here"]) (ix := [none, some 1, some 0])
     (te := tOp (rIxT K) (tOp (rIxL K) (tVar 1) (tCall spTake [] E0 (tCons (tVar 2) (tCons (tCB (fun xs H Q => ∃ p ys, xs = [.ref p] /\ (SqL K H p ys ∨ SqT K H p ys) /\ Q (.int ys.length) H) (tCons (tVar 1) tNil)) tNil)))) (tC (.int 0))) rfl ⟨rfl, rfl, rfl, rfl, rfl⟩
     (qaw (by rfl) B.rng (qaa (je_f hT GT hr (by rfl) (qaa (jv 0) (qaa (qau op_add (jv 2) qag) qad))) qad))
     (fun C s2 H2 fp pins => ⟨qaj (i := 0) (show (["_law_k", "_law_rows_here", "_law_source_here"] : List Str).Nodup by decide +kernel) rfl (Or.inl rfl), qbo,
       qbs qbu (qbs qcq (jv 1) (je_f hT GT hr (by rfl) (qaa (jv 2) (qaa (qan qas (by rfl) B.len boot_len (qaa (jv 1) qad)) qad))) (fun _ _ => rfl)) qag (fun _ _ => rfl)⟩))), ?_⟩
   refine ⟨_, rfl, _, rfl, _, _, rfl, rfl, d, (mo : Int) + 1, n, sd, t, rfl, hd, by omega, by omega, fun r n1 t1 r0 r1 => ⟨r, rfl, by omega, by omega, fun D hD => ?_⟩⟩
   have nDd : D ≠ d := fun e => by rw [e, qab] at hD; cases hD
   have hD0 : H D = none := by rw [qah nDd] at hD; exact hD
   refine blk_range (fun i σ' H' => ∃ (v : Option V) (n' t' : Int) (hs : List Str), σ' = [v, some (.ref l), some (.ref d)] /\ H' d = some (.dK (src n' sd t')) /\ H' D = some (.lst (hs.map V.str)) /\ hs.length = i /\ (∀ z ∈ hs, ∃ r ∈ rs, r.1 = z) /\ Fr H d H')
     ⟨none, n1, t1, [], rfl, ?_, qab, rfl, fun _ h => (nomatch h), (Fr.refl.at_d).new hD⟩ ?_ ?_
   . rw [qah (Ne.symm nDd)]
     exact qab
   . rintro i σ' H' hi ⟨v, n', t', hs, rfl, hd', hD', hl, ha, fr⟩
     have g' := g.fr' hd fr
     have pl : (ps.map V.ref).length = rs.length := by rw [List.length_map, g.rows.1]
     have le := g.le
     have ps0 := g.pos
     refine ⟨_, rfl, _, rfl, _, rfl, l, _, rfl, .inl (.of g'.at_), d, ((ps.map V.ref).length : Nat), n', sd, t', rfl, hd', by rw [pl]; omega, ?_, fun r n3 t3 r0 r1 => ?_⟩
     . rw [pl]
       have : rs.length < 2 ^ 200 := Nat.lt_of_le_of_lt le (by decide)
       omega
     obtain ⟨x, ex, gx⟩ := atI_get r0 r1
     obtain ⟨p, qq, r', rfl, er, hr', ea, eb⟩ := g'.rows.item gx
     have ndl : l ≠ d := fun e => by
       have := g'.at_
       rw [e, hd'] at this
       cases this
     have ndp : p ≠ d := fun e => by rw [e, hd'] at ea; cases ea
     refine ⟨l, _, r, _, rfl, rfl, .of (by rw [qah ndl]; exact g'.at_), ex, p, _, 0, _, rfl, rfl, .of (by rw [qah ndp]; exact ea), rfl, _, by rw [qah nDd]; exact hD', ?_, _, n3, t3, hs ++ [r'.1], rfl, ?_, ?_, ?_, ?_, ?_⟩
     . rw [List.length_map, hl]
       exact small1000 (by omega)
     . rw [qah (Ne.symm nDd)]; exact qab
     . rw [qab, List.map_append]; rfl
     . rw [List.length_append, hl]; rfl
     . intro z hz
       rcases List.mem_append.mp hz with h | h
       . exact ha z h
       . obtain rfl := List.mem_singleton.mp h
         exact ⟨r', hr', rfl⟩
     . exact (fr.at_d).own hD0
   . rintro σ' H' ⟨v, n', t', hs, rfl, hd', hD', hl, ha, fr⟩
     exact q D hs n' t' H' hD0 hD' (by omega) ha hd' fr
end
def lf (hs : List Str) (m : Nat × Str) : List Str := hs.set m.1 m.2
def OsAt (H : Hp) (ts : List Addr) (os : List ((Nat × Str) × Str)) : Prop := ts.length = os.length /\ ∀ (i : Nat) (t : Addr) (o : (Nat × Str) × Str), ts[i]? = some t -> os[i]? = some o -> ∃ p, H t = some (.tup [.ref p, .str o.2]) /\ H p = some (.tup (mvV o.1))
theorem OsAt.tk {H H' : Hp} {ts : List Addr} {os : List ((Nat × Str) × Str)} (h : OsAt H ts os) (k : TK H H') : OsAt H' ts os := ⟨h.1, fun i t o e1 e2 => let ⟨p, a, b⟩ := h.2 i t o e1 e2; ⟨p, k _ _ a, k _ _ b⟩⟩
theorem OsAt.nil {H : Hp} : OsAt H [] [] := ⟨rfl, fun i t o e => (nomatch e)⟩
theorem OsAt.snoc {H : Hp} {ts : List Addr} {os : List ((Nat × Str) × Str)} {t p : Addr} {o : (Nat × Str) × Str} (h : OsAt H ts os) (ht : H t = some (.tup [.ref p, .str o.2])) (hp : H p = some (.tup (mvV o.1))) : OsAt H (ts ++ [t]) (os ++ [o]) := by
 refine ⟨by rw [List.length_append, List.length_append, h.1]; rfl, fun i t' o' e1 e2 => ?_⟩
 rcases qce e1 with ⟨i1, e1⟩ | ⟨i1, rfl⟩
 . rcases qce e2 with ⟨_, e2⟩ | ⟨i2, _⟩
   . exact h.2 i t' o' e1 e2
   . have := h.1; omega
 . rcases qce e2 with ⟨i2, _⟩ | ⟨_, rfl⟩
   . have := h.1; omega
   . exact ⟨p, ht, hp⟩
theorem lf_in {rs : Rws} (g : GoodRows rs) {hs : List Str} (hi : ∀ z ∈ hs, ∃ r ∈ rs, r.1 = z) {m : Nat × Str} (hm : m ∈ mvs rs hs hs.length) : ∀ z ∈ lf hs m, ∃ r ∈ rs, r.1 = z := fun z hz => by
 obtain ⟨h1, h2⟩ := mvs_mem hm
 obtain ⟨r, hr, e⟩ := hi _ (zAt_mem h1)
 unfold lf at hz
 rcases List.mem_or_eq_of_mem_set hz with h | h
 . exact hi z h
 . rw [h]
   exact List.mem_map.mp (gOf_cl g.nd _ (List.mem_map.mpr ⟨r, hr, e⟩) _ h2)
def osOf (rs : Rws) (R : Rs Str) (hs : List Str) : List ((Nat × Str) × Str) := (mvs rs hs hs.length).map fun m => (m, outW (totW ((lf hs m).map (wT rs R))))
def spOBy : Sp := fun vs H Q _ => ∃ (D h : Addr) (rs : Rws) (R : Rs Str) (hs : List Str), vs = [.ref D, .ref h] /\ LabsAt H D rs R /\ HeapAt H h rs hs /\ (∀ z ∈ hs, okW (wT rs R z)) /\ ∀ H', Same H H' -> Q (.str (outW (totW (hs.map (wT rs R))))) H'
def spOsBy (CG : Addr) : Sp := fun vs H Q _ => ∃ (g D h : Addr) (rs : Rws) (R : Rs Str) (hs : List Str), vs = [.ref g, .ref D, .ref h] /\ GrAt CG H g rs /\ GoodRows rs /\ rs.length <= 14 /\ LabsAt H D rs R /\ Lab (gOf rs) (· ∈ rs.map (·.1)) (fOf R) (sOf R) /\ HeapAt H h rs hs ∧
 ∀ H' L ts, Same H H' -> H L = none -> H' L = some (.lst (ts.map V.ref)) -> OsAt H' ts (osOf rs R hs) -> Q (.ref L) H'
def spOAf (CG : Addr) : Sp := fun vs H Q _ => ∃ (g h : Addr) (rs : Rws) (hs : List Str), vs = [.ref g, .ref h] /\ GrAt CG H g rs /\ GoodRows rs /\ rs.length <= 14 /\ HeapAt H h rs hs ∧
 ∀ H' L ts R, Same H H' -> H L = none -> All (gOf rs) (rs.map (·.1)) 0 [] R -> H' L = some (.lst (ts.map V.ref)) -> OsAt H' ts (osOf rs R hs) -> Q (.ref L) H'
section
variable {P : Program} {w : World} {K : PySem.W.Frag} {mg : Str -> Option Value} {base : Heap}
structure HasP (K : PySem.W.Frag) (mg : Str -> Option Value) : Prop where
 mo : ∃ f fd, Has K mg "moves_of" sMovesOf ["ground", "heap"] f fd
 lb : ∃ f fd, Has K mg "left_by" sLeft ["heap", "move"] f fd
 oby : ∃ f fd, Has K mg "outcome_by" sOBy ["labels", "heap"] f fd
 osby : ∃ f fd, Has K mg "outcomes_by" sOsBy ["ground", "labels", "heap"] f fd
 oaf : ∃ f fd, Has K mg "outcomes_after" sOAf ["ground", "heap"] f fd
theorem scOBy : FnScope ["labels", "heap"] ["labels", "heap"] (defScope sOBy) := ⟨rfl, rfl, rfl, by decide +kernel, rfl, by decide +kernel, by decide +kernel⟩
theorem ok_oby {f : Addr} {fd : FuncData} (F : Fun K "outcome_by" "outcome_by" sOBy f fd) (h : WF K mg) (B : Blt mg) (Z : Wk K mg) (O : HasO K mg) : FnOk P w K mg base CX0 9 f fd ["labels", "heap"] spOBy := by
 obtain ⟨fL, fdL, hL⟩ := O.lw
 obtain ⟨fS, fdS, hS⟩ := O.sum
 obtain ⟨fW, fdW, hW⟩ := O.wby
 have GW : FnOk P w K mg base CX0 8 fW fdW ["labels", "heap"] (spWBy h.CN h.CE) := ok_wby hW.fn h B Z hL hS
 refine F.okJ scOBy (fun vs H Q E z => ?_) (fun cdv A outer s H vs Q E hr z => ?_)
 . obtain ⟨D, h', rs, R, hs, rfl, _⟩ := z
   rfl
 . obtain ⟨D, h', rs, R, hs, rfl, lb, hh, ok, q⟩ := z
   refine ⟨_, qae (qal (je_outc h B (hr.mono (by decide)) (je_f hW GW hr (by rfl) (qaa (jv 0) (qaa (jv 1) qad))))), ?_⟩
   refine ⟨_, rfl, _, rfl, D, h', rs, R, hs, rfl, lb, hh, ok, fun a H1 s1 i1 => ⟨a, _, rfl, i1, ?_, fun H2 s2 => q H2 (s1.trans s2)⟩⟩
   refine tot_ok fun u hu => ?_
   obtain ⟨z, hz, rfl⟩ := List.mem_map.mp hu
   exact ok z hz
theorem scOsBy : FnScope ["ground", "labels", "heap"] ["ground", "labels", "heap"] (defScope sOsBy) := ⟨rfl, rfl, rfl, by decide +kernel, rfl, by decide +kernel, by decide +kernel⟩
theorem ok_osby {f CG : Addr} {fd : FuncData} (F : Fun K "outcomes_by" "outcomes_by" sOsBy f fd) (h : WF K mg) (B : Blt mg) (Z : Wk K mg) (G : KitG mg) (T : KitP K mg) (M : GM K mg CG) (O : HasO K mg) (V1 : HasP K mg) : FnOk P w K mg base CX0 10 f fd ["ground", "labels", "heap"] (spOsBy CG) := by
 obtain ⟨fP, fdP, hP⟩ := O.place
 obtain ⟨fH, fdH, hH⟩ := O.heap
 obtain ⟨fM, fdM, hM⟩ := V1.mo
 obtain ⟨fL, fdL, hL⟩ := V1.lb
 obtain ⟨fB, fdB, hB⟩ := V1.oby
 have GM : FnOk P w K mg base CX0 4 fM fdM ["ground", "heap"] (spMoves CG) := ok_moves hM.fn B G T M hP O.most hH
 have GL : FnOk P w K mg base CX0 1 fL fdL ["heap", "move"] spLeft := ok_left hL.fn G
 have GB : FnOk P w K mg base CX0 9 fB fdB ["labels", "heap"] spOBy := ok_oby hB.fn h B Z O
 refine F.okJ scOsBy (fun vs H Q E z => ?_) (fun cdv A outer s H vs Q E hr z => ?_)
 . obtain ⟨g, D, h', rs, R, hs, rfl, _⟩ := z
   rfl
 . obtain ⟨g, D, h', rs, R, hs, rfl, gr, good, le, lb, L, hh, q⟩ := z
   have r1 : Room 1 _ := hr.mono (by decide)
   have r4 : Room 4 _ := hr.mono (by decide)
   refine ⟨_, qae (qal (qcg (N' := ["move", "labels", "heap"]) (ix := [none, some 1, some 2])
       (te := tTup (tCons (tVar 0) (tCons (tCall spOBy [] E0 (tCons (tVar 1) (tCons (tCall spLeft [] E0 (tCons (tVar 2) (tCons (tVar 0) tNil))) tNil))) tNil)))
       rfl ⟨rfl, rfl, rfl, rfl, rfl⟩ (qar (je_f hM GM r4 (by rfl) (qaa (jv 0) (qaa (jv 2) qad)))) (fun C s2 H2 fp pins =>
       ⟨qaj (i := 0) (show (["move", "labels", "heap"] : List Str).Nodup by decide +kernel) rfl (Or.inl rfl), qbo,
         qcb (qaa (jv 0) (qaa (je_f hB GB hr (by rfl) (qaa (jv 1) (qaa (je_f hL GL r1 (by rfl) (qaa (jv 2) (qaa (jv 0) qad))) qad))) qad))⟩))), ?_⟩
   refine ⟨_, rfl, _, rfl, g, h', rs, hs, rfl, gr, good, le, hh, fun H1 lm ps s1 hlm hlm1 mv => ⟨lm, rfl, ⟨_, .of hlm1⟩, fun W hW => ?_⟩⟩
   have l8 := hh.le
   have lmv : (mvs rs hs hs.length).length <= 112 := by
     have := mvs_len good le hh.in_ hs.length (Nat.le_refl _)
     omega
   have lps := mv.1
   refine qbk (K := K) (a := lm) (xs := ps.map V.ref) (fun j σ'' G1 => ∃ (v0 : Option V) (ts : List Addr), σ'' = [v0, some (.ref D), some (.ref h')] /\ Same H1 G1 /\ G1 W = some (.lst (ts.map V.ref)) /\ OsAt G1 ts ((osOf rs R hs).take j))
     ⟨none, [], rfl, qaf hW, qab, .nil⟩ (fun j σ'' G1 _ ⟨_, _, _, s, _⟩ => .of (s _ _ hlm1)) ?_ ?_
   . rintro j y σ'' G1 hy ⟨v0, ts, rfl, sG, hWG, os⟩
     rw [List.getElem?_map] at hy
     cases ep : ps[j]? with
     | none => rw [ep] at hy; cases hy
     | some p =>
       rw [ep] at hy
       obtain rfl := (Option.some.inj hy).symm
       have hj := (List.getElem?_eq_some_iff.mp ep).1
       have hj' : j < (mvs rs hs hs.length).length := by omega
       have em : (mvs rs hs hs.length)[j]? = some (mvs rs hs hs.length)[j] := List.getElem?_eq_getElem hj'
       have hmm := List.getElem_mem hj'
       generalize (mvs rs hs hs.length)[j] = m at em hmm
       have hp := sG _ _ (mv.2 j p m ep em)
       have sA := s1.trans sG
       refine ⟨_, rfl, _, rfl, _, rfl, _, rfl, h', p, hs, m, rfl, sA _ _ hh.at_, hp, (mvs_mem hmm).1, fun ll hll => ?_⟩
       have sB : Same G1 (upd G1 ll (.lst ((hs.set m.1 m.2).map V.str))) := qaf hll
       have hB1 : upd G1 ll (.lst ((hs.set m.1 m.2).map V.str)) ll = some (.lst ((lf hs m).map V.str)) := qab
       generalize upd G1 ll (.lst ((hs.set m.1 m.2).map V.str)) = G2 at sB hB1
       have lin := lf_in good hh.in_ hmm
       refine ⟨D, ll, rs, R, lf hs m, rfl, (lb.mono sA).mono sB, ⟨hB1, by unfold lf; rw [List.length_set]; exact l8, lin⟩, fun z hz => ?_, fun G3 s3 => ?_⟩
       . obtain ⟨r, hr', e⟩ := lin z hz
         exact wT_ok good L (List.mem_map.mpr ⟨r, hr', e⟩)
       . refine ⟨by show 2 <= sizeLine; decide, fun t ht => ?_⟩
         have s13 : Same G1 G3 := sB.trans s3
         have eo : (osOf rs R hs)[j]? = some (m, outW (totW ((lf hs m).map (wT rs R)))) := by unfold osOf; rw [List.getElem?_map, em]; rfl
         have lts := os.1
         rw [List.length_take] at lts
         have hWt : upd G3 t (.tup [V.ref p, .str (outW (totW ((lf hs m).map (wT rs R))))]) W = some (.lst (ts.map V.ref)) := qai (s13 _ _ hWG) ht
         refine ⟨_, hWt, by rw [List.length_map]; exact small1000 (by omega), _, ts ++ [t], rfl, Same.upd (sG.trans (s13.trans (qaf ht))) hW, by rw [List.map_append]; exact qab, ?_⟩
         rw [List.take_add_one, eo]
         refine ((os.tk (.of (s13.trans (qaf ht)))).snoc (t := t) (p := p) (o := (m, outW (totW ((lf hs m).map (wT rs R))))) qab (qai (s13 _ _ hp) ht)).tk ?_
         exact TK.upd hWt fun xs => by simp
   . rintro σ'' G1 ⟨v0, ts, rfl, sG, hWG, os⟩
     have el : (ps.map V.ref).length = (osOf rs R hs).length := by unfold osOf; rw [List.length_map, List.length_map, lps]
     rw [el, List.take_of_length_le (Nat.le_refl _)] at os
     exact q G1 W ts (s1.trans sG) (qbm s1 hW) hWG os
theorem scOAf : FnScope ["ground", "heap"] ["ground", "heap"] (defScope sOAf) := ⟨rfl, rfl, rfl, by decide +kernel, rfl, by decide +kernel, by decide +kernel⟩
theorem ok_oaf {f CG : Addr} {fd : FuncData} (F : Fun K "outcomes_after" "outcomes_after" sOAf f fd) (h : WF K mg) (B : Blt mg) (Z : Wk K mg) (G : KitG mg) (T : KitP K mg) (M : GM K mg CG) (Y : HasB K mg) (O : HasO K mg) (V1 : HasP K mg) : FnOk P w K mg base CX0 11 f fd ["ground", "heap"] (spOAf CG) := by
 obtain ⟨fB, fdB, hB⟩ := Y.labels
 obtain ⟨fO, fdO, hO⟩ := V1.osby
 have GB : FnOk P w K mg base CX0 8 fB fdB ["ground"] (spLabels CG) := ok_labels hB.fn B G T M Y
 have GO : FnOk P w K mg base CX0 10 fO fdO ["ground", "labels", "heap"] (spOsBy CG) := ok_osby hO.fn h B Z G T M O V1
 refine F.okJ scOAf (fun vs H Q E z => ?_) (fun cdv A outer s H vs Q E hr z => ?_)
 . obtain ⟨g, h', rs, hs, rfl, _⟩ := z
   rfl
 . obtain ⟨g, h', rs, hs, rfl, gr, good, le, hh, q⟩ := z
   refine ⟨_, qae (qal (je_f hO GO hr (by rfl) (qaa (jv 0) (qaa (je_f hB GB (hr.mono (by decide)) (by rfl) (qaa (jv 0) qad)) (qaa (jv 1) qad))))), ?_⟩
   refine ⟨_, rfl, _, rfl, g, rs, rfl, gr, good, le, fun H1 D R s1 hD lb all => ?_⟩
   refine ⟨_, rfl, g, D, h', rs, R, hs, rfl, gr.mono s1, good, le, lb, labs (gOf_cl good.nd) all, hh.mono s1, fun H2 L ts s2 hL hL2 os => q H2 L ts R (s1.trans s2) (qbm s1 hL) all hL2 os⟩
end
end Rh
set_option Elab.async false
set_option linter.all false
set_option maxRecDepth 100000
set_option maxHeartbeats 4000000
namespace Rh
open PySem L2 PyProof.Rows MLab
abbrev sLGets : Stmt := top 68
abbrev sLWorths : Stmt := top 69
structure LdF (H : Hp) (d : Addr) (rs : Rws) : Prop where
 at_ : ∃ (o : Obj) (kvs : List (Key × V)), H d = some (.frz o (.dK kvs)) /\ kvs.map (·.1) = (rs.map (·.1)).map Sum.inr /\ ∀ r ∈ rs, ∃ q, valV kvs (Sum.inr r.1 : Key) = some (.ref q) /\ H q = some (.tup (r.2.map V.str))
theorem LdF.mono {H H' : Hp} {d : Addr} {rs : Rws} (h : LdF H d rs) (s : Same H H') : LdF H' d rs := ⟨let ⟨o, kvs, a, b, c⟩ := h.at_; ⟨o, kvs, s _ _ a, b, fun r hr => let ⟨q, u, v⟩ := c r hr; ⟨q, u, s _ _ v⟩⟩⟩
theorem LdF.get {H : Hp} {d : Addr} {rs : Rws} (h : LdF H d rs) (g : GoodRows rs) {z : Str} (hz : z ∈ rs.map (·.1)) : ∃ q, DGet H d (.str z) (some (.ref q)) /\ H q = some (.tup ((ldOf rs z).map V.str)) := by
 obtain ⟨o, kvs, a, b, c⟩ := h.at_
 obtain ⟨r, hr, rfl⟩ := List.mem_map.mp hz
 obtain ⟨q, u, v⟩ := c r hr
 refine ⟨q, ?_, by rw [ldOf_row g.nd hr]; exact v⟩
 rw [← u]
 exact .inl ⟨kvs, Sum.inr r.1, .inr ⟨o, a⟩, rfl, rfl⟩
theorem ldOf_cl {rs : Rws} (g : GoodRows rs) {z y : Str} (hz : z ∈ rs.map (·.1)) (hy : y ∈ ldOf rs z) : y ∈ rs.map (·.1) := gOf_cl g.nd _ hz _ ((qaq g hz).mp hy)
theorem ldOf_len {rs : Rws} (g : GoodRows rs) {z : Str} (hz : z ∈ rs.map (·.1)) : (ldOf rs z).length <= 40 := by
 obtain ⟨r, hr, rfl⟩ := List.mem_map.mp hz
 rw [ldOf_row g.nd hr]
 exact g.two hr
def kn (rs : Rws) (f : Str -> Option Nat) (z : Str) : List Nat := (ldOf rs z).filterMap f
theorem kn_mem {rs : Rws} {f : Str -> Option Nat} {z : Str} {n : Nat} : n ∈ kn rs f z ↔ ∃ y ∈ ldOf rs z, f y = some n := List.mem_filterMap
theorem kn_vals (rs : Rws) (f : Str -> Option Nat) (z : Str) : (ldOf rs z).filterMap (fun y => (f y).map fun n => V.int (n : Nat)) = iNs (kn rs f z) := by
 unfold iNs kn
 rw [List.map_filterMap]
theorem gets_iff {rs : Rws} {f : Str -> Option Nat} {z : Str} {n : Nat} : Gets (ldOf rs) f z n ↔ (∀ j, j < n -> j ∈ kn rs f z) /\ n ∉ kn rs f z /\ ∀ y ∈ ldOf rs z, f y = none -> n ∈ kn rs f y := by
 unfold Gets
 simp only [kn_mem]
 constructor
 . rintro ⟨a, b, c⟩
   exact ⟨a, fun ⟨y, hy, e⟩ => b y hy e, c⟩
 . rintro ⟨a, b, c⟩
   exact ⟨a, fun y hy e => b ⟨y, hy, e⟩, c⟩
def gV (o : Option Nat) : V := (o.map fun n => V.int (n : Nat)).getD .non
theorem gV_flat (f : Str -> Option Nat) (ys : List Str) : (ys.map fun y => gV (f y)).all flatV = true := by
 rw [List.all_map, List.all_eq_true]
 intro y _
 show flatV (gV (f y)) = true
 cases f y <;> rfl
theorem gV_in (rs : Rws) (f : Str -> Option Nat) (z : Str) (n : Nat) : inV (.int (n : Nat)) ((ldOf rs z).map fun y => gV (f y)) = decide (n ∈ kn rs f z) := by
 unfold inV
 rw [List.any_map, Bool.eq_iff_iff, List.any_eq_true, decide_eq_true_iff, kn_mem]
 constructor
 . rintro ⟨y, hy, e⟩
   refine ⟨y, hy, ?_⟩
   have e : eqV (gV (f y)) (.int (n : Nat)) = true := e
   cases c : f y with
   | none => rw [c] at e; exact absurd e (by simp [gV, eqV])
   | some m =>
     rw [c] at e
     have e : (((m : Nat) : Int) == ((n : Nat) : Int)) = true := e
     have : ((m : Nat) : Int) = ((n : Nat) : Int) := eq_of_beq e
     have : m = n := by omega
     rw [this]
 . rintro ⟨y, hy, e⟩
   refine ⟨y, hy, ?_⟩
   show eqV (gV (f y)) (.int (n : Nat)) = true
   rw [e]
   show (((n : Nat) : Int) == ((n : Nat) : Int)) = true
   simp
def spLGets : Sp := fun vs H Q _ => ∃ (d e : Addr) (rs : Rws) (f : Str -> Option Nat) (z : Str) (n : Nat), vs = [.ref d, .ref e, .str z, .int (n : Nat)] /\ LdF H d rs /\ GoodRows rs /\ z ∈ rs.map (·.1) /\ NumAt (rs.map (·.1)) H e f /\ n <= 14 ∧
 ∀ H' b, Same H H' -> (b = true ↔ Gets (ldOf rs) f z n) -> Q (.bl b) H'
section
variable {P : Program} {w : World} {K : PySem.W.Frag} {mg : Str -> Option Value} {base : Heap}
theorem blk_kn {rs : Rws} {f : Str -> Option Nat} {z : Str} {q e W : Addr} {H : Hp} {Q : Hp -> Prop} (hW : H W = none) (hq : H q = some (.tup ((ldOf rs z).map V.str))) (nm : NumAt (rs.map (·.1)) H e f) (l40 : (ldOf rs z).length <= 40)
   (k : ∀ G, Same H G -> G W = some (.lst (iNs (kn rs f z))) -> Q G) : tBlk (Itt K q) (gName 0) (tB (tDIn (tVar 0) (tVar 1))) (tDGet (tVar 1) (tVar 0)) W [none, some (.ref e)] H Q := by
 refine blk_fmT (K := K) (a := q) (xs := ldOf rs z) (enc := V.str) (out := fun y => (f y).map fun n => V.int (n : Nat)) (rest := [some (.ref e)]) hW hq (small1000 (by omega)) ?_ ?_ ?_
 . intro x hx G' s5 R kk
   refine ⟨_, rfl, _, rfl, e, _, rfl, (nm.mono s5).get x, _, rfl, ?_⟩
   exact kk G' fun _ _ h => h
 . intro x hx v ev G' s5 R kk
   have g := (nm.mono s5).get x
   rw [ev] at g
   exact ⟨_, rfl, _, rfl, e, _, rfl, g, kk G' fun _ _ h => h⟩
 . intro G s5 hG
   rw [kn_vals] at hG
   exact k G s5 hG
abbrev nLG : List Str := ["_law_leads_here", "_law_numbers", "_law_name", "_law_number", "_law_known", "_law_other"]
abbrev pLG : List Str := ["_law_leads_here", "_law_numbers", "_law_name", "_law_number"]
theorem scLG : FnScope nLG pLG (defScope sLGets) := ⟨rfl, rfl, rfl, by decide +kernel, rfl, by decide +kernel, by decide +kernel⟩
theorem ok_lgets {f : Addr} {fd : FuncData} (F : Fun K "_law_gets" "_law_gets" sLGets f fd) (B : Blt mg) : FnOk P w K mg base CX0 1 f fd pLG spLGets := by
 refine F.okJ scLG (fun vs H Q E h => ?_) (fun cdv A outer s H vs Q E hr h => ?_)
 . obtain ⟨d, e, rs, ff, z, n, rfl, _⟩ := h
   rfl
 . obtain ⟨d, e, rs, ff, z, n, rfl, ld, good, hz, nm, n14, q⟩ := h
   have hu := hu_of hr
   refine ⟨_, qac (qao (i := 4) scLG.nd rfl (Or.inr rfl) (qcg (N' := ["_law_other", "_law_numbers"]) (ix := [none, some 1]) (tt := tB (tDIn (tVar 0) (tVar 1))) (te := tDGet (tVar 1) (tVar 0)) rfl ⟨rfl, rfl, rfl, rfl, rfl⟩ (ji_tup (qbd hu (jv 0) (jv 2) (fun _ _ => rfl))) (fun C s2 H2 fp pins =>
         ⟨qaj (i := 0) (show (["_law_other", "_law_numbers"] : List Str).Nodup by decide +kernel) rfl (Or.inl rfl), qbr (qcs (jc_din hu (jv 0) (jv 1))), qbd hu (jv 1) (jv 0) (fun _ _ => rfl)⟩)))
     (qac (qba (JW.pt (jw_or (qak (op_neLN (Nat.lt_of_succ_lt hu)) (qcg (N' := ["_law_lesser", "_law_known"]) (ix := [none, some 4]) (tt := tTest (tOp (rIn K true) (tVar 0) (tVar 1))) (te := tVar 0) rfl ⟨rfl, rfl, rfl, rfl, rfl⟩ (qaw (by rfl) B.rng (qaa (jv 3) qad)) (fun C s2 H2 fp pins =>
         ⟨qaj (i := 0) (show (["_law_lesser", "_law_known"] : List Str).Nodup by decide +kernel) rfl (Or.inl rfl), qbr (qak qcm (jv 0) (jv 1) (by with_unfolding_all rfl)), jv 0⟩)) (qck qad) (nomark _))
         (jw_or1 (qak qca (jv 3) (jv 4) (by with_unfolding_all rfl))))) (qae (qal qcp)) qap)
     (qac (qbf PassesOwn.never rfl (ji_tup (qbd hu (jv 0) (jv 2) (fun _ _ => rfl))) (qaj (i := 5) scLG.nd rfl (Or.inl rfl))
       (qae (qba (JW.pt (qcr (qcs (jc_dnotin hu (jv 5) (jv 1))) (qcf (qak qcm (jv 3) (qcg (N' := ["_law_one", "_law_numbers"]) (ix := [none, some 1]) (te := tDGet1 (tVar 1) (tVar 0)) rfl ⟨rfl, rfl, rfl, rfl, rfl⟩ (ji_tup (qbd hu (jv 0) (jv 5) (fun _ _ => rfl))) (fun C s2 H2 fp pins =>
         ⟨qaj (i := 0) (show (["_law_one", "_law_numbers"] : List Str).Nodup by decide +kernel) rfl (Or.inl rfl), qbo, je_dget1 hu (jv 1) (jv 0) ⟨rfl, rfl, rfl, rfl⟩⟩)) (by with_unfolding_all rfl))))) (qae (qal qcp)) qap)))
     (qae (qal qcp)))), ?_⟩
   obtain ⟨q0, g0, hq0⟩ := ld.get good hz
   refine ⟨_, rfl, _, rfl, d, _, rfl, g0, q0, rfl, ⟨_, .of hq0⟩, fun W hW => ?_⟩
   refine blk_kn (K := K) hW hq0 nm (ldOf_len good hz) fun G1 s1 hW1 => ?_
   refine ⟨_, rfl, (n : Int), rfl, by omega, by omega, fun U hU => ?_⟩
   refine blk_fmR (n := n) (out := fun j => if j ∈ kn rs ff z then none else some (V.int (j : Nat))) (rest := [some (.ref W)]) hU (small1000 (by omega)) ?_ ?_ ?_
   . intro x hx G' s5 R kk
     refine ⟨_, rfl, _, rfl, W, _, rfl, .inl (.of (s5 _ _ hW1)), rfl, iNs_flat _, _, rfl, ?_⟩
     have := kk G' fun _ _ h => h
     show R (!inV (.int (x : Nat)) (iNs (kn rs ff z))) G'
     rw [iNs_in]
     by_cases c : x ∈ kn rs ff z
     . rw [if_pos c] at this
       rw [decide_eq_true c]
       exact this
     . rw [if_neg c] at this
       rw [decide_eq_false c]
       exact this
   . intro x hx v ev G' s5 R kk
     have : v = V.int (x : Nat) := by
       split at ev
       . cases ev
       . exact (Option.some.inj ev).symm
     subst this
     exact ⟨_, rfl, kk G' fun _ _ h => h⟩
   . intro G2 s2 hU2
     have s12 := s1.trans s2
     generalize hls : (List.range n).filterMap (fun j => if j ∈ kn rs ff z then none else some (V.int (j : Nat))) = ls at hU2
     refine ⟨by show 0 <= sizeLine; decide, fun l0 hl0 => ?_⟩
     have s0 : Same G2 (upd G2 l0 (.lst [])) := qaf hl0
     refine ⟨U, l0, _, rfl, rfl, .of (s0 _ _ hU2), .of qab, _, rfl, ?_⟩
     have s3 : Same H (upd G2 l0 (.lst [])) := s12.trans s0
     have hW3 := s0 _ _ (s2 _ _ hW1)
     generalize upd G2 l0 (.lst []) = G3 at s0 s3 hW3
     have lsE : ls = [] ↔ ∀ j, j < n -> j ∈ kn rs ff z := by
       rw [← hls, List.filterMap_eq_nil_iff]
       constructor
       . intro h j hj
         have := h j (List.mem_range.mpr hj)
         by_cases c : j ∈ kn rs ff z
         . exact c
         . rw [if_neg c] at this; cases this
       . intro h j hj
         rw [if_pos (h j (List.mem_range.mp hj))]
     cases ls with
     | cons a ls =>
       refine iteT (iteT (q G3 false s3 ⟨fun h => (nomatch h), fun h => ?_⟩))
       have := lsE.mpr (gets_iff.mp h).1
       cases this
     | nil =>
       refine iteF ⟨_, rfl, _, rfl, W, _, rfl, .inl (.of hW3), rfl, iNs_flat _, _, rfl, ?_⟩
       have lo := lsE.mp rfl
       by_cases c : n ∈ kn rs ff z
       . refine iteT_of (show inV (.int (n : Nat)) (iNs (kn rs ff z)) = true by rw [iNs_in]; exact decide_eq_true c) (q G3 false s3 ⟨fun h => (nomatch h), fun h => absurd c (gets_iff.mp h).2.1⟩)
       . refine qcx (show inV (.int (n : Nat)) (iNs (kn rs ff z)) = false by rw [iNs_in]; exact decide_eq_false c) ?_
         obtain ⟨q1, g1, hq1⟩ := (ld.mono s3).get good hz
         refine ⟨_, rfl, _, rfl, d, _, rfl, g1, q1, rfl, ⟨_, .of hq1⟩, ?_⟩
         refine for_tup (K := K) (a := q1) (xs := (ldOf rs z).map V.str) (fun i σ' G => ∃ v5, σ' = [some (.ref d), some (.ref e), some (.str z), some (.int (n : Nat)), some (.ref W), v5] /\ Same G3 G /\ ∀ y ∈ (ldOf rs z).take i, ff y = none -> n ∈ kn rs ff y)
           ⟨_, rfl, fun _ _ h => h, fun y h => (nomatch h)⟩ (fun i σ' G _ ⟨_, _, s, _⟩ => .of (s _ _ hq1)) ?_ ?_
         . rintro i x σ' G hx ⟨v5, rfl, sG, hall⟩
           obtain ⟨y, ey, hy, rfl⟩ := strs_at hx
           have sA := s3.trans sG
           have hyN := ldOf_cl good hz hy
           have gy := (nm.mono sA).get y
           have step : ∀ {G' : Hp}, Same G G' -> (ff y = none -> n ∈ kn rs ff y) -> ∃ v5, [some (V.ref d), some (.ref e), some (.str z), some (.int (n : Nat)), some (.ref W), some (.str y)] = [some (.ref d), some (.ref e), some (.str z), some (.int (n : Nat)), some (.ref W), v5] /\ Same G3 G' /\ ∀ y ∈ (ldOf rs z).take (i + 1), ff y = none -> n ∈ kn rs ff y := fun {G'} s' hy' => by
             refine ⟨_, rfl, sG.trans s', fun u hu => ?_⟩
             rw [List.take_add_one, ey] at hu
             rcases List.mem_append.mp hu with hu | hu
             . exact hall u hu
             . have : u = y := by simpa using hu
               rw [this]; exact hy'
           refine ⟨_, rfl, _, rfl, e, _, rfl, gy, _, rfl, ?_⟩
           cases cy : ff y with
           | some m =>
             exact iteF (iteF (step (fun _ _ h => h) fun h => by rw [cy] at h; cases h))
           | none =>
             obtain ⟨q2, g2, hq2⟩ := (ld.mono sA).get good hyN
             refine iteT ⟨_, rfl, _, rfl, _, rfl, d, _, rfl, g2, q2, rfl, ⟨_, .of hq2⟩, fun T hT => ?_⟩
             refine blk_fmT (K := K) (a := q2) (xs := ldOf rs y) (enc := V.str) (out := fun u => some (gV (ff u))) (rest := [some (.ref e)]) hT hq2 (small1000 (by have := ldOf_len good hyN; omega)) ?_ ?_ ?_
             . intro x hx G' s5 R kk
               exact kk G' fun _ _ h => h
             . intro x hx v ev G' s5 R kk
               obtain rfl := (Option.some.inj ev).symm
               have nmG := (nm.mono sA).mono s5
               obtain ⟨ke, he⟩ := nmG.isd
               exact ⟨_, rfl, e, rfl, .inl ⟨ke, .inl he⟩, _, rfl, _, nmG.get x, kk G' fun _ _ h => h⟩
             . intro G4 s4 hT4
               rw [show (fun u => some (gV (ff u))) = (some ∘ fun u => gV (ff u)) from rfl, List.filterMap_eq_map] at hT4
               refine ⟨T, _, rfl, .inl (.of hT4), rfl, gV_flat ff _, _, rfl, ?_⟩
               show if (!inV (.int (n : Nat)) ((ldOf rs y).map fun u => gV (ff u))) = true then _ else _
               rw [gV_in]
               by_cases c2 : n ∈ kn rs ff y
               . rw [decide_eq_true c2]
                 exact iteF (step s4 fun _ => c2)
               . rw [decide_eq_false c2]
                 exact iteT (q G4 false (sA.trans s4) ⟨fun h => (nomatch h), fun h => absurd ((gets_iff.mp h).2.2 y hy cy) c2⟩)
         . rintro σ' G ⟨v5, rfl, sG, hall⟩
           rw [List.length_map, List.take_of_length_le (Nat.le_refl _)] at hall
           exact q G true (s3.trans sG) ⟨fun _ => gets_iff.mpr ⟨lo, c, hall⟩, fun _ => rfl⟩
end
end Rh
set_option Elab.async false
set_option linter.all false
set_option maxRecDepth 100000
set_option maxHeartbeats 4000000
namespace Rh
open PySem L2 PyProof.Rows MLab
theorem putK_keys {κ : Type} [DecidableEq κ] {kvs : List (κ × V)} {k : κ} {v u : V} (h : valV kvs k = some u) : (putK kvs k v).map (·.1) = kvs.map (·.1) := by
 unfold putK
 have : (kvs.any fun kv => decide (kv.1 = k)) = true := by rw [qcl, h]; rfl
 rw [if_pos this, List.map_map]
 refine List.map_congr_left fun x _ => ?_
 show (if x.1 = k then (x.1, v) else x).1 = x.1
 split <;> rfl
theorem sum_set (ns : List Nat) : ∀ m, (((List.range m).filter fun k => decide (k ∈ ns)).map fun k => 2 ^ k).sum = Rb.setN ((List.range m).filter fun k => decide (k ∈ ns))
 | 0 => rfl
 | m + 1 => by
   have ih := sum_set ns m
   have lt : Rb.setN ((List.range m).filter fun k => decide (k ∈ ns)) < 2 ^ m := Rb.setN_lt fun x hx => List.mem_range.mp (List.mem_filter.mp hx).1
   rw [List.range_succ, List.filter_append]
   by_cases c : m ∈ ns
   . have e : [m].filter (fun k => decide (k ∈ ns)) = [m] := by simp [c]
     rw [e, List.map_append, List.sum_append, ih, Rb.setN_snoc]
     have h2 := Nat.two_pow_add_eq_or_of_lt lt 1
     rw [Nat.mul_one] at h2
     show _ + (2 ^ m + 0) = _
     rw [Nat.add_zero, Nat.add_comm, h2, Nat.or_comm]
   . have e : [m].filter (fun k => decide (k ∈ ns)) = [] := by simp [c]
     rw [e, List.append_nil]
     exact ih
theorem set_same {ns ms : List Nat} (h : ∀ x, x ∈ ns ↔ x ∈ ms) : Rb.setN ns = Rb.setN ms := Nat.eq_of_testBit_eq fun k => by rw [Rb.testBit_setN, Rb.testBit_setN, decide_eq_decide.mpr (h k)]
theorem sum_16 {ns : List Nat} (h : ∀ x ∈ ns, x < 16) : (((List.range 16).filter fun k => decide (k ∈ ns)).map fun k => 2 ^ k).sum = Rb.setN ns := by
 rw [sum_set]
 exact set_same fun x => by
   rw [List.mem_filter, List.mem_range, decide_eq_true_iff]
   exact ⟨fun z => z.2, fun z => ⟨h x z, z⟩⟩
def tW : Rb.W -> List V
 | .num n => [.str "number", .int (n : Nat)]
 | .edl b => [.str "endless", .int (b : Nat)]
def wF (rs : Rws) (f : Str -> Option Nat) (z : Str) : Rb.W := match f z with
 | some n => .num n
 | none => .edl (Rb.setN (kn rs f z))
structure WtP (H : Hp) (D : Addr) (F : Str -> Rb.W) (zs : List Str) : Prop where
 at_ : ∃ kvs : List (Key × V), H D = some (.dK kvs) /\ kvs.map (·.1) = zs.map Sum.inr /\ ∀ z ∈ zs, ∃ t, valV kvs (Sum.inr z : Key) = some (.ref t) /\ H t = some (.tup (tW (F z)))
theorem WtP.mono {H H' : Hp} {D : Addr} {F : Str -> Rb.W} {zs : List Str} (h : WtP H D F zs) (s : Same H H') : WtP H' D F zs := ⟨let ⟨kvs, a, b, c⟩ := h.at_; ⟨kvs, s _ _ a, b, fun z hz => let ⟨t, u, v⟩ := c z hz; ⟨t, u, s _ _ v⟩⟩⟩
theorem WtP.get {H : Hp} {D : Addr} {F : Str -> Rb.W} {zs : List Str} (h : WtP H D F zs) {z : Str} (hz : z ∈ zs) : ∃ t, DGet H D (.str z) (some (.ref t)) /\ H t = some (.tup (tW (F z))) := by
 obtain ⟨kvs, a, b, c⟩ := h.at_
 obtain ⟨t, u, v⟩ := c z hz
 refine ⟨t, ?_, v⟩
 rw [← u]
 exact DGet.k (k := (Sum.inr z : Key)) a
theorem WtP.new {H : Hp} {D t : Addr} {F : Str -> Rb.W} {zs : List Str} {z : Str} (h : WtP H D F zs) (hz : z ∉ zs) (l : zs.length <= 14) (ht : H t = some (.tup (tW (F z)))) : ∃ o, DPut H D (.str z) (.ref t) (upd H D o) /\ WtP (upd H D o) D F (zs ++ [z]) := by
 obtain ⟨kvs, a, b, c⟩ := h.at_
 have lk : kvs.length = zs.length := by simpa using congrArg List.length b
 have new : valV kvs (Sum.inr z : Key) = none := valV_out (by
   rw [b]
   intro m
   obtain ⟨y, hy, e⟩ := List.mem_map.mp m
   cases e
   exact hz hy)
 have tD : ∀ {b : Addr} {xs : List V}, H b = some (.tup xs) -> b ≠ D := fun hb e => by rw [e, a] at hb; cases hb
 refine ⟨_, DPut.k (k := (Sum.inr z : Key)) a (small1000 (by omega)), ⟨_, qab, ?_, fun y hy => ?_⟩⟩
 . rw [putK_new _ new, List.map_append, b, List.map_append]
   rfl
 . rcases List.mem_append.mp hy with hy | hy
   . obtain ⟨t', u, v⟩ := c y hy
     refine ⟨t', ?_, by rw [qah (tD v)]; exact v⟩
     rw [qbx, if_neg (fun q => by cases q; exact hz hy)]
     exact u
   . have : y = z := by simpa using hy
     subst this
     exact ⟨t, by rw [qbx, if_pos rfl], by rw [qah (tD ht)]; exact ht⟩
theorem WtP.over {H : Hp} {D t : Addr} {F F' : Str -> Rb.W} {zs : List Str} {z : Str} (h : WtP H D F' zs) (hz : z ∈ zs) (l : zs.length <= 15) (ag : ∀ y ∈ zs, y ≠ z -> F' y = F y) (ht : H t = some (.tup (tW (F z)))) : ∃ o, DPut H D (.str z) (.ref t) (upd H D o) /\ WtP (upd H D o) D F zs := by
 obtain ⟨kvs, a, b, c⟩ := h.at_
 have lk : kvs.length = zs.length := by simpa using congrArg List.length b
 obtain ⟨t0, e0, _⟩ := c z hz
 have tD : ∀ {b : Addr} {xs : List V}, H b = some (.tup xs) -> b ≠ D := fun hb e => by rw [e, a] at hb; cases hb
 refine ⟨_, DPut.k (k := (Sum.inr z : Key)) a (small1000 (by omega)), ⟨_, qab, by rw [putK_keys e0]; exact b, fun y hy => ?_⟩⟩
 by_cases q : y = z
 . subst q
   exact ⟨t, by rw [qbx, if_pos rfl], by rw [qah (tD ht)]; exact ht⟩
 . obtain ⟨t', u, v⟩ := c y hy
   rw [ag y hy q] at v
   refine ⟨t', ?_, by rw [qah (tD v)]; exact v⟩
   rw [qbx, if_neg (fun w => q (Sum.inr.inj w))]
   exact u
theorem WtP.congr {H : Hp} {D : Addr} {F F' : Str -> Rb.W} {zs : List Str} (h : WtP H D F zs) (e : ∀ z ∈ zs, F z = F' z) : WtP H D F' zs := ⟨let ⟨kvs, a, b, c⟩ := h.at_; ⟨kvs, a, b, fun z hz => by rw [← e z hz]; exact c z hz⟩⟩
theorem big_no {rs : Rws} (g : GoodRows rs) {f : Str -> Option Nat} {x : Str} (hx : x ∈ rs.map (·.1)) (e : f x = none) : ¬ ∀ j, j < (rs.map (·.1)).length -> ∃ y ∈ ldOf rs x, f y = some j := fun h => by
 have h1 := len_sub (l := List.range (rs.map (·.1)).length) (m := (rs.map (·.1)).filterMap f) List.nodup_range fun j hj => by
   obtain ⟨y, hy, ey⟩ := h j (List.mem_range.mp hj)
   exact List.mem_filterMap.mpr ⟨y, ldOf_cl g hx hy, ey⟩
 rw [List.length_range] at h1
 obtain ⟨p, q, ep⟩ := List.append_of_mem hx
 rw [ep, List.filterMap_append, List.filterMap_cons, e, List.length_append, List.length_append, List.length_cons] at h1
 have h2 := List.length_filterMap_le f p
 have h3 := List.length_filterMap_le f q
 have h1 : p.length + (q.length + 1) <= (p.filterMap f).length + (q.filterMap f).length := h1
 omega
theorem labG {rs : Rws} (g : GoodRows rs) {num : Str -> Option Nat} {stp : Str -> Nat} (L : Lab (ldOf rs) (· ∈ rs.map (·.1)) num stp) : Lab (gOf rs) (· ∈ rs.map (·.1)) num stp where
 cl := fun {x y} hx hy => L.cl hx ((qaq g hx).mpr hy)
 n1 := fun {x n m} hx e lt => let ⟨y, hy, k⟩ := L.n1 hx e lt; ⟨y, (qaq g hx).mp hy, k⟩
 n2 := fun {x y n} hx e hy => L.n2 hx e ((qaq g hx).mpr hy)
 n3 := fun {x y n} hx e hy gt => let ⟨z, hz, k⟩ := L.n3 hx e ((qaq g hx).mpr hy) gt; ⟨z, (qaq g (L.cl hx ((qaq g hx).mpr hy))).mp hz, k⟩
 n4 := fun {x y n m} hx e hy => L.n4 hx e ((qaq g hx).mpr hy)
 e := fun {x m} hx e lo hi => by
   obtain ⟨y, hy, ey, ly⟩ := L.e hx e (fun j hj => let ⟨y, hy, k⟩ := lo j hj; ⟨y, (qaq g hx).mpr hy, k⟩) (fun y hy => hi y ((qaq g hx).mp hy))
   exact ⟨y, (qaq g hx).mp hy, ey, fun z hz => ly z ((qaq g (L.cl hx hy)).mpr hz)⟩
theorem wF_eq {rs : Rws} (g : GoodRows rs) {f : Str -> Option Nat} {stp : Str -> Nat} (L : Lab (ldOf rs) (· ∈ rs.map (·.1)) f stp) {R : Rs Str} (all : All (gOf rs) (rs.map (·.1)) 0 [] R) {z : Str} (hz : z ∈ rs.map (·.1)) : wF rs f z = wT rs R z := by
 have L' := labL g (labs (gOf_cl g.nd) all)
 have eq : ∀ {y}, y ∈ rs.map (·.1) -> f y = fOf R y := fun hy => lab_eq L L' hy
 unfold wF wT
 rw [eq hz]
 cases fOf R z with
 | some n => rfl
 | none =>
   show Rb.W.edl _ = Rb.W.edl _
   congr 1
   refine set_same fun x => ?_
   rw [kn_mem, qcj]
   constructor
   . rintro ⟨y, hy, e⟩
     exact ⟨y, (qaq g hz).mp hy, by rw [← eq (ldOf_cl g hz hy)]; exact e⟩
   . rintro ⟨y, hy, e⟩
     have hy' := (qaq g hz).mpr hy
     exact ⟨y, hy', by rw [eq (ldOf_cl g hz hy')]; exact e⟩
def spLWo : Sp := fun vs H Q _ => ∃ (l : Addr) (ps : List Addr) (rs : Rws), vs = [.ref l] /\ GoodAt H l ps rs ∧
 ∀ H' D F, Same H H' -> H D = none -> WtP H' D F (rs.map (·.1)) -> (∀ R, All (gOf rs) (rs.map (·.1)) 0 [] R -> ∀ z ∈ rs.map (·.1), F z = wT rs R z) -> (∀ z ∈ rs.map (·.1), Rb.okW (F z)) -> Q (.ref D) H'
section
variable {P : Program} {w : World} {K : PySem.W.Frag} {mg : Str -> Option Value} {base : Heap}
abbrev nLWo : List Str := ["_law_rows_here", "_law_leads_here", "_law_numbers", "_law_number", "_law_more", "_law_coming", "_law_name", "_law_worths_here", "_law_here"]
theorem scLWo : FnScope nLWo ["_law_rows_here"] (defScope sLWorths) := ⟨rfl, rfl, rfl, by decide +kernel, rfl, by decide +kernel, by decide +kernel⟩
theorem ok_lworths {f fG : Addr} {fd fdG : FuncData} (F : Fun K "_law_worths" "_law_worths" sLWorths f fd) (B : Blt mg) (T : KitP K mg) (hdi : mg "dict" = none) (hG : Has K mg "_law_gets" sLGets pLG fG fdG) : FnOk P w K mg base CX0 2 f fd ["_law_rows_here"] spLWo := by
 have GG : FnOk P w K mg base CX0 1 fG fdG pLG spLGets := ok_lgets hG.fn B
 refine F.okJ scLWo (fun vs H Q E h => ?_) (fun cdv A outer s H vs Q E hr h => ?_)
 . obtain ⟨l, ps, rs, rfl, _⟩ := h
   rfl
 . obtain ⟨l, ps, rs, rfl, g, q⟩ := h
   have hu := hu_of hr
   refine ⟨_, qac (qao (i := 1) scLWo.nd rfl (Or.inr rfl) (je_frz (qbn (call_dictP rfl) (by rfl) hdi boot_dict (qaa (jv 0) qad))))
     (qac (qao (i := 2) scLWo.nd rfl (Or.inr rfl) qch)
     (qac (qbf PassesOwn.never rfl (qaw (by rfl) B.rng (qaa (qan qas (by rfl) B.len boot_len (qaa (jv 0) qad)) qad)) (qaj (i := 3) scLWo.nd rfl (Or.inr rfl))
       (qac (qao (i := 4) scLWo.nd rfl (Or.inl rfl) qcp)
       (qae (js_while PassesOwn.never (qbv (jv 4))
         (qac (qcw (i := 5) (N' := ["_law_name", "_law_numbers", "_law_leads_here", "_law_number"]) (ix := [none, some 2, some 1, some 3]) (tt := tAnd (tB (tDNotIn (tVar 0) (tVar 1))) (tB (tCall spLGets [] E0 (tCons (tVar 2) (tCons (tVar 1) (tCons (tVar 0) (tCons (tVar 3) tNil))))))) (te := tVar 0) scLWo.nd rfl (Or.inl rfl) rfl ⟨rfl, rfl, rfl, rfl, rfl⟩ (ji_dct (jv 1)) (fun C s2 H2 fp pins =>
           ⟨qaj (i := 0) (show (["_law_name", "_law_numbers", "_law_leads_here", "_law_number"] : List Str).Nodup by decide +kernel) rfl (Or.inl rfl), qbr (JW.pt (qcr (qcs (jc_dnotin hu (jv 0) (jv 1))) (qcf (qbv (je_f hG GG hr (by rfl) (qaa (jv 2) (qaa (jv 1) (qaa (jv 0) (qaa (jv 3) qad))))))))), jv 0⟩))
         (qac (qao (i := 4) scLWo.nd rfl (Or.inl rfl) (qcn (op_neLN (Nat.lt_of_succ_lt hu)) (jv 5) (qck qad) (nomark _)))
         (qae (qbf PassesOwn.never rfl (qar (je_slice sl_list (jv 5) jo_none (jo_some qag))) (qaj (i := 6) scLWo.nd rfl (Or.inl rfl)) (qae (qbi hu (jv 2) (jv 6) (jv 3) rfl))))))))))
     (qac (qao (i := 7) scLWo.nd rfl (Or.inl rfl) qch)
     (qac (qbf PassesOwn.never rfl (ji_dct (jv 1)) (qaj (i := 6) scLWo.nd rfl (Or.inl rfl))
       (qac (qao (i := 8) scLWo.nd rfl (Or.inr rfl) (qcg (N' := ["_law_other", "_law_numbers"]) (ix := [none, some 2]) (tt := tB (tDIn (tVar 0) (tVar 1))) (te := tDGet (tVar 1) (tVar 0)) rfl ⟨rfl, rfl, rfl, rfl, rfl⟩ (ji_tup (qbd hu (jv 1) (jv 6) (fun _ _ => rfl))) (fun C s2 H2 fp pins =>
         ⟨qaj (i := 0) (show (["_law_other", "_law_numbers"] : List Str).Nodup by decide +kernel) rfl (Or.inl rfl), qbr (qcs (jc_din hu (jv 0) (jv 1))), qbd hu (jv 1) (jv 0) (fun _ _ => rfl)⟩)))
       (qac (qbi hu (jv 7) (jv 6) (qcb (qaa qat (qaa (qan (call_sumN rfl) (by rfl) T.sum boot_sum (qaa (qcg (N' := ["_law_k", "_law_here"]) (ix := [none, some 8]) (tt := tTest (tOp (rIn K false) (tVar 0) (tVar 1))) (te := tOp (rI CPow fun i j => .int (i * 2 ^ j.toNat)) (tC (.int 1)) (tVar 0)) rfl ⟨rfl, rfl, rfl, rfl, rfl⟩ (qaw (by rfl) B.rng (qaa qag qad)) (fun C s2 H2 fp pins =>
         ⟨qaj (i := 0) (show (["_law_k", "_law_here"] : List Str).Nodup by decide +kernel) rfl (Or.inl rfl), qbr (qak qca (jv 0) (jv 1) (by with_unfolding_all rfl)), qau op_shl qag (jv 0)⟩)) qad)) qad))) rfl)
       (qae (qba (qcs (jc_din hu (jv 6) (jv 2))) (qae (qbi hu (jv 7) (jv 6) (qcb (qaa qat (qaa (qbd hu (jv 2) (jv 6) (fun _ _ => rfl)) qad))) rfl)) qap)))))
     (qae (qal (jv 7))))))), ?_⟩
   have good := g.good
   have le14 := g.le
   have nd := good.nd
   refine ⟨_, rfl, nil_in (dict_all g fun d kvs hd ek hv => ⟨d, kvs, rfl, qab, fun o => ?_⟩)⟩
   rw [qbl]
   have s1 : Same H (upd H d (.frz o (.dK kvs))) := qaf hd
   have hd1 : upd H d (.frz o (.dK kvs)) d = some (.frz o (.dK kvs)) := qab
   generalize upd H d (.frz o (.dK kvs)) = H1 at s1 hd1
   have ld : LdF H1 d rs := ⟨o, kvs, hd1, ek, fun r hr => let ⟨t, a, b⟩ := hv r hr; ⟨t, a, s1 _ _ b⟩⟩
   intro e he
   have s2 : Same H1 (upd H1 e (.dK [])) := qaf he
   have he2 : upd H1 e (.dK []) e = some (.dK []) := qab
   have he0 : H e = none := qbm s1 he
   have nde : d ≠ e := fun z => by rw [← z, hd1] at he; cases he
   generalize upd H1 e (.dK []) = H2 at s2 he2
   have ldG : ∀ {G : Hp}, Fr H2 e G -> LdF G d rs := fun fr => by
     refine ⟨o, kvs, fr _ _ (s2 _ _ hd1) nde, ek, fun r hr => ?_⟩
     obtain ⟨t, a, b⟩ := hv r hr
     have b2 := s2 _ _ (s1 _ _ b)
     exact ⟨t, a, fr _ _ b2 (fun z => by rw [z, he2] at b2; cases b2)⟩
   have hdG : ∀ {G : Hp}, Fr H2 e G -> G d = some (.frz o (.dK kvs)) := fun fr => fr _ _ (s2 _ _ hd1) nde
   have lN : (rs.map (·.1)).length = rs.length := List.length_map ..
   have s02 : Same H H2 := s1.trans s2
   have lps : ps.length = rs.length := g.rows.1
   refine ⟨_, rfl, l, _, rfl, .inl (.of (s02 _ _ g.at_)), _, rfl, ?_, ?_, ?_⟩
   . omega
   . rw [List.length_map, lps]; omega
   refine qcc (fun i σ G => ∃ (v3 v4 v5 v6 : Option V) (R1 : Rs Str), σ = [some (.ref l), some (.ref d), some (.ref e), v3, v4, v5, v6, none, none] /\ Fr H2 e G /\ NumAt (rs.map (·.1)) G e (fOf R1) /\ Pt (ldOf rs) (rs.map (·.1)) R1 i)
     ⟨none, none, none, none, [], rfl, Fr.refl, ⟨[], he2, fun z => rfl, List.nodup_nil, fun k h => (nomatch h)⟩, Pt.nil⟩ ?_ ?_
   . rintro i σ G hi ⟨v3, v4, v5, v6, R0, rfl, fr0, nm0, pt0⟩
     rw [Int.zero_add]
     have hi : i < rs.length := by
       rw [List.length_map, lps] at hi
       simpa using hi
     refine while_by (fun σ G => ∃ (v5 v6 : Option V) (R1 : Rs Str) (more : Bool), σ = [some (.ref l), some (.ref d), some (.ref e), some (.int (i : Nat)), some (.bl more), v5, v6, none, none] /\ Fr H2 e G /\ NumAt (rs.map (·.1)) G e (fOf R1) /\ Pt (ldOf rs) (rs.map (·.1)) R1 i ∧
         (more = false -> ∀ x ∈ rs.map (·.1), fOf R1 x = none -> ¬ Gets (ldOf rs) (fOf R1) x i))
       (fun σ G => 2 * bareH (rs.map (·.1)) G e + (match σ with | [_, _, _, _, some (.bl true), _, _, _, _] => 1 | _ => 0))
       ⟨v5, v6, R0, true, rfl, fr0, nm0, pt0, fun z => (nomatch z)⟩ ?_ ?_
     . rintro σ G ⟨v5, v6, R1, more, rfl, fr, nm, pt, fin⟩
       refine ⟨_, rfl, more, rfl, ?_⟩
       cases more with
       | false => exact iteF ⟨_, _, _, _, R1, rfl, fr, nm, pt.next (fin rfl)⟩
       | true =>
         refine iteT ⟨_, rfl, d, o, kvs, rs.map (·.1), rfl, hdG fr, ek, fun W hW => ?_⟩
         refine blk_dct (zs := rs.map (·.1)) (fun j σ'' G1 => ∃ (v0 : Option V) (cs : List Str), σ'' = [v0, some (.ref e), some (.ref d), some (.int (i : Nat))] /\ Same G G1 /\ G1 W = some (.lst (cs.map V.str)) /\ cs.length <= j /\ (∀ c ∈ cs, c ∈ rs.map (·.1) /\ fOf R1 c = none /\ Gets (ldOf rs) (fOf R1) c i) /\ (cs = [] -> ∀ z ∈ (rs.map (·.1)).take j, fOf R1 z = none -> ¬ Gets (ldOf rs) (fOf R1) z i))
           ⟨none, [], rfl, qaf hW, qab, Nat.le_refl _, fun c h => (nomatch h), fun _ z h => (nomatch h)⟩ (fun j σ'' G1 _ ⟨_, _, _, s, _⟩ => s _ _ (hdG fr)) ?_ ?_
         . rintro j z σ'' G1 ez ⟨v0, cs, rfl, sG, hWG, lc, hc, hn⟩
           have hz : z ∈ rs.map (·.1) := List.mem_of_getElem? ez
           have hj := (List.getElem?_eq_some_iff.mp ez).1
           have more' : ∀ {G2 : Hp}, Same G1 G2 -> (fOf R1 z = none -> ¬ Gets (ldOf rs) (fOf R1) z i) -> ∃ (v0 : Option V) (cs : List Str), [some (V.str z), some (.ref e), some (.ref d), some (.int (i : Nat))] = [v0, some (.ref e), some (.ref d), some (.int (i : Nat))] /\ Same G G2 /\ G2 W = some (.lst (cs.map V.str)) /\ cs.length <= j + 1 /\ (∀ c ∈ cs, c ∈ rs.map (·.1) /\ fOf R1 c = none /\ Gets (ldOf rs) (fOf R1) c i) /\ (cs = [] -> ∀ z ∈ (rs.map (·.1)).take (j + 1), fOf R1 z = none -> ¬ Gets (ldOf rs) (fOf R1) z i) := fun {G2} s' no => by
             refine ⟨_, cs, rfl, sG.trans s', s' _ _ hWG, by omega, hc, fun e0 y hy => ?_⟩
             rw [List.take_add_one, ez] at hy
             rcases List.mem_append.mp hy with hy | hy
             . exact hn e0 y hy
             . have : y = z := by simpa using hy
               rw [this]; exact no
           refine ⟨_, rfl, _, rfl, e, _, rfl, (nm.mono sG).get z, _, rfl, ?_⟩
           cases cz : fOf R1 z with
           | some m => exact iteF (iteF (more' (fun _ _ h => h) fun h => by rw [cz] at h; cases h))
           | none =>
             refine iteT ⟨_, rfl, _, rfl, _, rfl, _, rfl, d, e, rs, fOf R1, z, i, rfl, (ldG fr).mono sG, good, hz, nm.mono sG, by omega, fun G2 b s' hb => ⟨b, rfl, ?_⟩⟩
             cases b with
             | false => exact iteF (more' s' fun _ gt => absurd (hb.mpr gt) (by simp))
             | true =>
               refine iteT ⟨_, rfl, _, s' _ _ hWG, by rw [List.length_map]; exact small1000 (by omega), _, cs ++ [z], rfl, Same.upd (sG.trans s') hW, by rw [List.map_append]; exact qab, by rw [List.length_append]; exact Nat.succ_le_succ lc, fun c hcc => ?_, fun e0 => ?_⟩
               . rcases List.mem_append.mp hcc with hcc | hcc
                 . exact hc c hcc
                 . have : c = z := by simpa using hcc
                   rw [this]
                   exact ⟨hz, cz, hb.mp rfl⟩
               . simp at e0
         . rintro σ'' G1 ⟨v0, cs, rfl, sG, hWG, lc, hc, hn⟩
           rw [List.take_of_length_le (Nat.le_refl _)] at hn
           refine ⟨_, rfl, by show 0 <= sizeLine; decide, fun l0 hl0 => ?_⟩
           have s3 : Same G1 (upd G1 l0 (.lst [])) := qaf hl0
           refine ⟨W, l0, _, rfl, rfl, .of (s3 _ _ hWG), .of qab, ?_⟩
           have sA : Same G (upd G1 l0 (.lst [])) := sG.trans s3
           have hWA := s3 _ _ hWG
           generalize upd G1 l0 (.lst []) = G2 at sA hWA
           refine ⟨_, rfl, _, rfl, W, _, rfl, .of hWA, fun lc' hlc => ?_⟩
           have ecut : cutV (cs.map V.str) none (some (1 : Int)) = (cs.take 1).map V.str := by
             unfold cutV
             rw [HT.sIx_none, show (1 : Int) = ((1 : Nat) : Int) from rfl, HT.sIx_nat, List.length_map]
             cases cs with
             | nil => rfl
             | cons a t => simp
           rw [ecut]
           have s4 : Same G2 (upd G2 lc' (.lst ((cs.take 1).map V.str))) := qaf hlc
           have hlc4 : upd G2 lc' (.lst ((cs.take 1).map V.str)) lc' = some (.lst ((cs.take 1).map V.str)) := qab
           generalize upd G2 lc' (.lst ((cs.take 1).map V.str)) = G3 at s4 hlc4
           have sB : Same G G3 := sA.trans s4
           have frB : Fr H2 e G3 := fr.same sB
           have nmB := nm.mono sB
           obtain ⟨ke, hke⟩ := nm.isd
           have nle : lc' ≠ e := fun z => by rw [z, sA _ _ hke] at hlc; cases hlc
           refine ⟨lc', rfl, ⟨_, .of hlc4⟩, ?_⟩
           have mu0 : bareH (rs.map (·.1)) G e = bareN rs (fOf R1) := nm.bare
           cases cs with
           | nil =>
             refine qbh (K := K) (a := lc') (xs := []) (fun j σ' G' => ∃ v6, σ' = [some (.ref l), some (.ref d), some (.ref e), some (.int (i : Nat)), some (.bl false), some (.ref W), v6, none, none] /\ Fr H2 e G' /\ NumAt (rs.map (·.1)) G' e (fOf R1) /\ G' lc' = some (.lst [])) ⟨v6, rfl, frB, nmB, hlc4⟩ (fun j σ' G' _ ⟨_, _, _, _, h⟩ => .of h) (fun j x σ' G' hx => (nomatch hx)) ?_
             rintro σ' G' ⟨v6', rfl, fr', nm', _⟩
             refine ⟨⟨_, _, R1, false, rfl, fr', nm', pt, fun _ => hn rfl⟩, ?_⟩
             show 2 * bareH (rs.map (·.1)) G' e + 0 < 2 * bareH (rs.map (·.1)) G e + 1
             rw [mu0, nm'.bare]
             omega
           | cons c cs =>
             obtain ⟨hcN, hcn, hcg⟩ := hc c List.mem_cons_self
             have pt' : Pt (ldOf rs) (rs.map (·.1)) (R1 ++ [(i, [c])]) i := pt.one fun x hx => by
               have : x = c := by simpa using hx
               subst this
               exact ⟨hcN, hcn, hcg⟩
             have ltb : bareN rs (fOf (R1 ++ [(i, [c])])) < bareN rs (fOf R1) := bare_lt (fun z hz => by
               have : z = c := by simpa using hz
               subst this
               exact ⟨hcN, hcn⟩) (by simp)
             refine qbh (K := K) (a := lc') (xs := [V.str c]) (fun j σ' G' => ∃ v6, σ' = [some (.ref l), some (.ref d), some (.ref e), some (.int (i : Nat)), some (.bl true), some (.ref W), v6, none, none] /\ Fr H2 e G' /\ (j = 0 -> NumAt (rs.map (·.1)) G' e (fOf R1)) /\ (j = 1 -> NumAt (rs.map (·.1)) G' e (fOf (R1 ++ [(i, [c])]))) /\ G' lc' = some (.lst [V.str c])) ⟨v6, rfl, frB, fun _ => nmB, fun h => absurd h (by decide), hlc4⟩ (fun j σ' G' _ ⟨_, _, _, _, _, h⟩ => .of h) ?_ ?_
             . rintro j x σ' G' hx ⟨v6', rfl, fr', n0, n1, hl'⟩
               have j0 : j = 0 := by
                 have := (List.getElem?_eq_some_iff.mp hx).1
                 simpa using this
               subst j0
               obtain rfl : V.str c = x := Option.some.inj hx
               obtain ⟨H4, put, nm4, o4, e4⟩ := (n0 rfl).put (n := i) hcN hcn (by rw [lN]; exact le14)
               refine ⟨_, rfl, _, rfl, _, rfl, e, H4, rfl, put, _, rfl, by rw [e4]; exact fr'.at_d, fun h => absurd h (by decide), fun _ => nm4.congr fun y => ?_, by rw [e4, qah nle]; exact hl'⟩
               by_cases ey : y = c
               . subst ey
                 rw [if_pos rfl]
                 exact (f_new hcn (by simp)).symm
               . rw [if_neg ey, fOf_snoc]
                 cases fOf R1 y with
                 | some m => rfl
                 | none =>
                   show none = if y ∈ [c] then some i else none
                   rw [if_neg (by simp [ey])]
             . rintro σ' G' ⟨v6', rfl, fr', n0, n1, hl'⟩
               have nm' := n1 rfl
               refine ⟨⟨_, _, _, true, rfl, fr', nm', pt', fun h => (nomatch h)⟩, ?_⟩
               show 2 * bareH (rs.map (·.1)) G' e + 1 < 2 * bareH (rs.map (·.1)) G e + 1
               rw [mu0, nm'.bare]
               omega
     . rintro σ G Q1 Q2 kk ⟨x, ex, b, eb, q1⟩
       exact ⟨x, ex, b, eb, kk _ _ q1⟩
   rintro σ G ⟨v3, v4, v5, v6, R1, rfl, fr, nm, pt⟩
   rw [List.length_map, lps, Int.toNat_natCast, ← lN] at pt
   have L : Lab (ldOf rs) (· ∈ rs.map (·.1)) (fOf R1) (sOf R1) := pt.lab (fun x hx y hy => ldOf_cl good hx hy) fun x hx ex => big_no good hx ex
   have small : ∀ z ∈ rs.map (·.1), ∀ x ∈ kn rs (fOf R1) z, x < 16 := fun z hz x hx => by
     obtain ⟨y, hy, ey⟩ := kn_mem.mp hx
     have hyN := ldOf_cl good hz hy
     have L2 : Lab (gOf rs) (· ∈ rs.map (·.1)) (fOf R1) (sOf R1) := labG good L
     have := num_le good L2 hyN ey
     omega
   have okF : ∀ z ∈ rs.map (·.1), Rb.okW (wF rs (fOf R1) z) := fun z hz => by
     unfold wF
     cases cz : fOf R1 z with
     | some n =>
       have := num_le good (labG good L) hz cz
       show n < 16
       omega
     | none => exact Rb.setN_lt (m := 16) (small z hz)
   have sHG : Same H G := fun b u hb => fr _ _ (s02 _ _ hb) (qam hb he0)
   intro D hD
   have hD0 : H D = none := qbm sHG hD
   have sD : Same G (upd G D (.dK [])) := qaf hD
   have hDD : upd G D (.dK []) D = some (.dK []) := qab
   generalize upd G D (.dK []) = G1 at sD hDD
   have ld1 := (ldG fr).mono sD
   have hd1' := sD _ _ (hdG fr)
   have nm1 := nm.mono sD
   have sH1 := sHG.trans sD
   refine ⟨_, rfl, d, o, kvs, rs.map (·.1), rfl, hd1', ek, ?_⟩
   have nDd : d ≠ D := fun z => by rw [z, hDD] at hd1'; cases hd1'
   obtain ⟨ke, hke⟩ := nm1.isd
   have nDe : e ≠ D := fun z => by
     obtain ⟨k0, h0⟩ := nm.isd
     rw [z, hD] at h0; cases h0
   refine for_dct (zs := rs.map (·.1)) (fun i σ' G2 => ∃ (v6 v8 : Option V), σ' = [some (.ref l), some (.ref d), some (.ref e), v3, v4, v5, v6, some (.ref D), v8] /\ Fr G1 D G2 /\ WtP G2 D (wF rs (fOf R1)) ((rs.map (·.1)).take i))
     ⟨v6, none, rfl, Fr.refl, ⟨[], hDD, rfl, fun z h => (nomatch h)⟩⟩ (fun i σ' G2 _ ⟨_, _, _, f, _⟩ => f _ _ hd1' nDd) ?_ ?_
   . rintro i z σ' G2 ez ⟨v6', v8, rfl, fr2, wt⟩
     have hz : z ∈ rs.map (·.1) := List.mem_of_getElem? ez
     have hi := (List.getElem?_eq_some_iff.mp ez).1
     have nz : z ∉ (rs.map (·.1)).take i := fun m => not_taken nd ez (List.mem_map.mpr ⟨z, m, rfl⟩)
     have ld2 : LdF G2 d rs := by
       obtain ⟨o', kvs', a, b, c⟩ := ld1.at_
       refine ⟨o', kvs', fr2 _ _ a nDd, b, fun r hr => ?_⟩
       obtain ⟨t, u, v⟩ := c r hr
       exact ⟨t, u, fr2 _ _ v (fun q => by rw [q, hDD] at v; cases v)⟩
     have nm2 : NumAt (rs.map (·.1)) G2 e (fOf R1) := nm1.fr fr2 nDe
     obtain ⟨q0, g0, hq0⟩ := ld2.get good hz
     refine ⟨_, rfl, _, rfl, d, _, rfl, g0, q0, rfl, ⟨_, .of hq0⟩, fun W hW => ?_⟩
     refine blk_kn (K := K) hW hq0 nm2 (ldOf_len good hz) fun G3 s3 hW3 => ?_
     refine ⟨16, rfl, by decide, by decide, fun U hU => ?_⟩
     refine blk_fmR (n := 16) (out := fun j => if decide (j ∈ kn rs (fOf R1) z) = true then some (V.int ((2 ^ j : Nat) : Int)) else none) (rest := [some (.ref W)]) hU (by decide) ?_ ?_ ?_
     . intro x hx G' s5 R kk
       refine ⟨_, rfl, _, rfl, W, _, rfl, .inl (.of (s5 _ _ hW3)), rfl, iNs_flat _, _, rfl, ?_⟩
       have := kk G' fun _ _ h => h
       show R (inV (.int (x : Nat)) (iNs (kn rs (fOf R1) z))) G'
       rw [iNs_in]
       by_cases c : x ∈ kn rs (fOf R1) z
       . rw [if_pos (decide_eq_true c)] at this
         rw [decide_eq_true c]
         exact this
       . rw [if_neg (by simp [c])] at this
         rw [decide_eq_false c]
         exact this
     . intro x hx v ev G' s5 R kk
       have : v = V.int ((2 ^ x : Nat) : Int) := by
         split at ev
         . exact (Option.some.inj ev).symm
         . cases ev
       subst this
       refine ⟨_, rfl, 1, (x : Int), rfl, rfl, ⟨by omega, by omega, by decide⟩, ?_⟩
       have e9 : (1 : Int) * 2 ^ ((x : Int).toNat) = ((2 ^ x : Nat) : Int) := by
         rw [Int.one_mul, Int.toNat_natCast]
         exact (Int.natCast_pow 2 x).symm
       show R (.int ((1 : Int) * 2 ^ ((x : Int).toNat))) G'
       rw [e9]
       exact kk G' fun _ _ h => h
     . intro G4 s4 hU4
       have eU : (List.range 16).filterMap (fun j => if decide (j ∈ kn rs (fOf R1) z) = true then some (V.int ((2 ^ j : Nat) : Int)) else none) = (((List.range 16).filter fun k => decide (k ∈ kn rs (fOf R1) z)).map fun k => 2 ^ k).map fun n => V.int ((n : Nat) : Int) := by
         generalize List.range 16 = rg
         induction rg with
         | nil => rfl
         | cons a rg ih =>
           rw [List.filterMap_cons, List.filter_cons]
           by_cases c : decide (a ∈ kn rs (fOf R1) z) = true
           . rw [if_pos c, if_pos c, List.map_cons, List.map_cons, ← ih]
           . rw [if_neg c, if_neg c, ← ih]
       rw [eU] at hU4
       have es := sum_16 (small z hz)
       have lt : Rb.setN (kn rs (fOf R1) z) < 2 ^ 16 := Rb.setN_lt (small z hz)
       refine ⟨U, _, rfl, .of hU4, by rw [es]; exact Nat.lt_trans lt (by decide), ?_⟩
       rw [es]
       have s34 : Same G2 G4 := s3.trans s4
       refine ⟨by show 2 <= sizeLine; decide, fun t ht => ?_⟩
       have s5 : Same G2 (upd G4 t (.tup [.str "endless", .int (Rb.setN (kn rs (fOf R1) z) : Nat)])) := s34.trans (qaf ht)
       have ht5 : upd G4 t (.tup [.str "endless", .int (Rb.setN (kn rs (fOf R1) z) : Nat)]) t = some (.tup [.str "endless", .int (Rb.setN (kn rs (fOf R1) z) : Nat)]) := qab
       generalize upd G4 t (.tup [.str "endless", .int (Rb.setN (kn rs (fOf R1) z) : Nat)]) = G5 at s5 ht5
       have lz : ((rs.map (·.1)).take i).length <= 14 := by rw [List.length_take, lN]; omega
       have wt' : WtP G5 D (fun y => if y = z then .edl (Rb.setN (kn rs (fOf R1) z)) else wF rs (fOf R1) y) ((rs.map (·.1)).take i) := (wt.mono s5).congr fun y hy => by show _ = if y = z then _ else _; rw [if_neg (fun q : y = z => nz (by rw [← q]; exact hy))]
       obtain ⟨o6, put6, wt6⟩ := wt'.new nz lz (t := t) (by rw [if_pos rfl]; exact ht5)
       refine ⟨_, rfl, _, rfl, D, _, rfl, put6, ?_⟩
       have fr6 : Fr G1 D (upd G5 D o6) := (fr2.same s5).at_d
       have nm6 : NumAt (rs.map (·.1)) (upd G5 D o6) e (fOf R1) := nm1.fr fr6 nDe
       have etk : (rs.map (·.1)).take (i + 1) = (rs.map (·.1)).take i ++ [z] := by rw [List.take_add_one, ez]; rfl
       generalize upd G5 D o6 = G6 at wt6 fr6 nm6
       have gz := nm6.get z
       refine ⟨_, rfl, _, rfl, e, _, rfl, gz, _, rfl, ?_⟩
       cases cz : fOf R1 z with
       | none =>
         refine iteF ⟨_, _, rfl, fr6, ?_⟩
         rw [etk]
         refine wt6.congr fun y hy => ?_
         by_cases q : y = z
         . subst q
           rw [if_pos rfl]
           unfold wF
           rw [cz]
         . rw [if_neg q]
       | some m =>
         rw [cz] at gz
         refine iteT ⟨_, rfl, _, rfl, e, _, rfl, gz, by show 2 <= sizeLine; decide, fun t2 ht2 => ?_⟩
         have s7 : Same G6 (upd G6 t2 (.tup [.str "number", .int (m : Nat)])) := qaf ht2
         have ht7 : upd G6 t2 (.tup [.str "number", .int (m : Nat)]) t2 = some (.tup (tW (wF rs (fOf R1) z))) := by
           rw [qab]
           unfold wF
           rw [cz]
           rfl
         generalize upd G6 t2 (.tup [.str "number", .int (m : Nat)]) = G7 at s7 ht7
         obtain ⟨o8, put8, wt8⟩ := (wt6.mono s7).over (F := wF rs (fOf R1)) (z := z) (by simp) (by rw [List.length_append, List.length_singleton]; omega) (fun y _ q => if_neg q) ht7
         refine ⟨_, rfl, _, rfl, D, _, rfl, put8, _, _, rfl, (fr6.same s7).at_d, ?_⟩
         rw [etk]
         exact wt8
   . rintro σ' G2 ⟨v6', v8, rfl, fr2, wt⟩
     rw [List.take_of_length_le (Nat.le_refl _)] at wt
     exact ⟨_, rfl, q G2 D _ (fun b u hb => fr2 _ _ (sH1 _ _ hb) (qam hb hD0)) hD0 wt (fun R all z hz => wF_eq good L all hz) okF⟩
end
end Rh
set_option Elab.async false
set_option linter.all false
set_option maxRecDepth 100000
set_option maxHeartbeats 4000000
namespace Rh
open PySem L2 PyProof.Rows MLab Rb
abbrev sTotal : Stmt := top 70
abbrev sLO : Stmt := top 71
abbrev sLAf : Stmt := top 72
abbrev sBM : Stmt := top 73
def wordW : W -> Str
 | .num _ => "number"
 | .edl _ => "endless"
def valW : W -> Nat
 | .num n => n
 | .edl b => b
theorem wN : decide (V.str (Str.ofString "endless") = V.str (Str.ofString "number")) = false := by decide +kernel
theorem wE : decide (V.str (Str.ofString "number") = V.str (Str.ofString "endless")) = false := by decide +kernel
theorem DVs_iNs {K : PySem.W.Frag} {H : Hp} : ∀ ns : List Nat, DVs K H (iNs ns) (ns.map fun n => PyData.int (n : Nat))
 | [] => .nil
 | n :: ns => .cons (.int _) (DVs_iNs ns)
theorem canInts : ∀ ns : List Nat, PyData.canLayAll0 (ns.map fun n => PyData.int (n : Nat)) = true
 | [] => rfl
 | n :: ns => by
   rw [List.map_cons, PyData.canLayAll0, canInts ns]
   rfl
theorem depthInts : ∀ ns : List Nat, PyData.depthAll (ns.map fun n => PyData.int (n : Nat)) <= 1
 | [] => by decide
 | n :: ns => by
   rw [List.map_cons]
   have := depthInts ns
   simp only [PyData.depthAll, PyData.depth]
   omega
theorem shaped1 (ns : List Nat) : PySem.SeqAt.shaped (.list (ns.map fun n => PyData.int (n : Nat))) = true := by
 unfold PySem.SeqAt.shaped
 rw [Bool.and_eq_true]
 refine ⟨canInts ns, decide_eq_true ?_⟩
 have := depthInts ns
 simp only [PyData.depth]
 omega
theorem eqv_nil (ns : List Nat) : PyData.eqv (.list (ns.map fun n => PyData.int (n : Nat))) (.list []) = decide (ns = []) := by
 cases ns with
 | nil => decide
 | cons n ns =>
   rw [List.map_cons, decide_eq_false (by simp)]
   simp [PyData.eqv, PyData.eqvAll]
theorem sets_len (ws : List W) : (setsW ws).length <= ws.length := List.length_filterMap_le _ _
theorem sets_lt {ws : List W} (h : ∀ u ∈ ws, okW u) : ∀ b ∈ setsW ws, b < 65536 := by
 intro x hx
 obtain ⟨u, hu, e⟩ := List.mem_filterMap.mp hx
 cases u with
 | num n => cases e
 | edl b => cases e; exact h _ hu
theorem tW_eq (u : Rb.W) : tW u = [.str (wordW u), .int (valW u : Nat)] := by cases u <;> rfl
def Tl (H : Hp) (ps : List Addr) (ws : List Rb.W) : Prop := ps.length = ws.length /\ ∀ (i : Nat) (p : Addr) (u : Rb.W), ps[i]? = some p -> ws[i]? = some u -> H p = some (.tup (tW u))
theorem Tl.tk {H H' : Hp} {ps : List Addr} {ws : List Rb.W} (h : Tl H ps ws) (k : TK H H') : Tl H' ps ws := ⟨h.1, fun i p u e1 e2 => k _ _ (h.2 i p u e1 e2)⟩
theorem Tl.snoc {H : Hp} {ps : List Addr} {ws : List Rb.W} {p : Addr} {u : Rb.W} (h : Tl H ps ws) (hp : H p = some (.tup (tW u))) : Tl H (ps ++ [p]) (ws ++ [u]) := by
 refine ⟨by rw [List.length_append, List.length_append, h.1]; rfl, fun i p' b' e1 e2 => ?_⟩
 rcases qce e1 with ⟨i1, e1⟩ | ⟨i1, rfl⟩
 . rcases qce e2 with ⟨_, e2⟩ | ⟨i2, _⟩
   . exact h.2 i p' b' e1 e2
   . have := h.1; omega
 . rcases qce e2 with ⟨i2, _⟩ | ⟨_, rfl⟩
   . have := h.1; omega
   . exact hp
theorem fm_pow (p : Nat -> Bool) (l : List Nat) : l.filterMap (fun j => if p j = true then some (V.int ((2 ^ j : Nat) : Int)) else none) = ((l.filter p).map fun k => 2 ^ k).map fun n => V.int ((n : Nat) : Int) := by
 induction l with
 | nil => rfl
 | cons a l ih =>
   rw [List.filterMap_cons, List.filter_cons]
   by_cases c : p a = true
   . rw [if_pos c, if_pos c, List.map_cons, List.map_cons, ← ih]
   . rw [if_neg c, if_neg c, ← ih]
theorem sum_turn {b n : Nat} (hn : n < 16) : (((List.range 16).filter fun k => b.testBit (k ^^^ n)).map fun k => 2 ^ k).sum = turnN b n 16 := by
 have e : (List.range 16).filter (fun k => b.testBit (k ^^^ n)) = (List.range 16).filter fun k => decide (k ∈ (List.range 16).filter fun k => b.testBit (k ^^^ n)) := List.filter_congr fun k hk => by
   rw [Bool.eq_iff_iff, decide_eq_true_iff, List.mem_filter]
   exact ⟨fun h => ⟨hk, h⟩, fun h => h.2⟩
 rw [e, sum_set, ← e]
 refine Nat.eq_of_testBit_eq fun k => ?_
 rw [testBit_setN, qbz hn, Bool.eq_iff_iff, decide_eq_true_iff, Bool.and_eq_true, decide_eq_true_iff, List.mem_filter, List.mem_range]
def spTot : Sp := fun vs H Q _ => ∃ (l : Addr) (ps : List Addr) (ws : List Rb.W), vs = [.ref l] /\ H l = some (.lst (ps.map V.ref)) /\ Tl H ps ws /\ (∀ u ∈ ws, okW u) /\ ws.length <= 8 /\ ∀ H' p, Same H H' -> H' p = some (.tup (tW (totW ws))) -> Q (.ref p) H'
def spLO : Sp := fun vs H Q _ => ∃ (t : Addr) (u : Rb.W), vs = [.ref t] /\ H t = some (.tup (tW u)) /\ ∀ H', Same H H' -> Q (.str (outW u)) H'
section
variable {P : Program} {w : World} {K : PySem.W.Frag} {mg : Str -> Option Value} {base : Heap}
theorem scTotal : FnScope ["_law_worths_here", "_law_number", "_law_word", "_law_one", "_law_sets"] ["_law_worths_here"] (defScope sTotal) := ⟨rfl, rfl, rfl, by decide +kernel, rfl, by decide +kernel, by decide +kernel⟩
theorem ok_total {f : Addr} {fd : FuncData} (F : Fun K "_law_total" "_law_total" sTotal f fd) (B : Blt mg) (T : KitP K mg) : FnOk P w K mg base CX0 1 f fd ["_law_worths_here"] spTot := by
 refine F.okJ scTotal (fun vs H Q E h => ?_) (fun cdv A outer s H vs Q E hr h => ?_)
 . obtain ⟨l, ps, ws, rfl, _⟩ := h
   rfl
 . obtain ⟨l, ps, ws, rfl, hL, hTl, hok, hlen, q⟩ := h
   refine ⟨_, qac (qao (i := 1) scTotal.nd rfl (Or.inr rfl) qag)
     (qac (qbf PassesOwn.never rfl (qar (jv 0)) (jg_tup rfl (qbg (qaj (i := 2) scTotal.nd rfl (Or.inl rfl)) (qbg (qaj (i := 3) scTotal.nd rfl (Or.inl rfl)) jgs_nil)))
       (qae (qba (qak op_eq (jv 2) qat (nomark _)) (qae (qao (i := 1) scTotal.nd rfl (Or.inr rfl) (qau op_xor (jv 1) (jv 3)))) qap)))
     (qac (qao (i := 4) scTotal.nd rfl (Or.inr rfl) (qcg (N' := ["_law_word", "_law_one"]) (ix := [none, none]) (g := gTup K 2 (gCons (gName 0) (gCons (gName 1) gNil))) rfl ⟨rfl, rfl, rfl, rfl, rfl⟩ (qar (jv 0))
         (fun C s2 H2 fp pins => ⟨jg_tup rfl (qbg (qaj (i := 0) (show (["_law_word", "_law_one"] : List Str).Nodup by decide +kernel) rfl (Or.inl rfl)) (qbg (qaj (i := 1) (show (["_law_word", "_law_one"] : List Str).Nodup by decide +kernel) rfl (Or.inl rfl)) jgs_nil)),
           qbr (qak op_eq (jv 0) qat (nomark _)), jv 1⟩)))
     (qac (qba (qak (op_eqV hr.units) (jv 4) (qck qad) (nomark _)) (qae (qal (qcb (qaa qat (qaa (jv 1) qad))))) qap)
     (qac (qba (qak op_gt (qan qas (by rfl) B.len boot_len (qaa (jv 4) qad)) qag (nomark _)) (qae (qal (qcb (qaa qat (qaa qag qad))))) qap)
     (qae (qal (qcb (qaa qat (qaa (qan (call_sumN rfl) (by rfl) T.sum boot_sum (qaa (qcg (N' := ["_law_k", "_law_sets", "_law_number"]) (ix := [none, some 4, some 1])
         (tt := tTest (tOp rEq (tOp (rI0 fun i j => .int (Builtin.bitAnd i j)) (tOp (rI (fun _ j => 0 <= j) fun i j => .int (i / 2 ^ j.toNat)) (tOp (rIxL K) (tVar 1) (tC (.int 0))) (tOp (rI0 fun i j => .int (Builtin.bitXor i j)) (tVar 0) (tVar 2))) (tC (.int 1))) (tC (.int 1)))) (te := tOp (rI CPow fun i j => .int (i * 2 ^ j.toNat)) (tC (.int 1)) (tVar 0)) rfl ⟨rfl, rfl, rfl, rfl, rfl⟩ (qaw (by rfl) B.rng (qaa qag qad)) (fun C s2 H2 fp pins =>
         ⟨qaj (i := 0) (show (["_law_k", "_law_sets", "_law_number"] : List Str).Nodup by decide +kernel) rfl (Or.inl rfl), qbr (qak op_eq (qau op_and (qau op_shr (qbs qcq (jv 1) qag (fun _ _ => rfl)) (qau op_xor (jv 0) (jv 2))) qag) qag (nomark _)), qau op_shl qag (jv 0)⟩)) qad)) qad))))))))), ?_⟩
   have item : ∀ {i : Nat} {x : V}, (ps.map V.ref)[i]? = some x -> ∃ (p : Addr) (u : Rb.W), x = .ref p /\ ws[i]? = some u /\ H p = some (.tup [.str (wordW u), .int (valW u : Nat)]) := fun {i x} hx => by
     rw [List.getElem?_map] at hx
     cases ep : ps[i]? with
     | none => rw [ep] at hx; cases hx
     | some p =>
       rw [ep] at hx
       have hi : i < ws.length := by
         have := (List.getElem?_eq_some_iff.mp ep).1
         rw [hTl.1] at this
         exact this
       have ew : ws[i]? = some ws[i] := List.getElem?_eq_getElem hi
       exact ⟨p, _, (Option.some.inj hx).symm, ew, by rw [← tW_eq]; exact hTl.2 i p _ ep ew⟩
   have tk : ∀ {i : Nat} {u : Rb.W}, ws[i]? = some u -> ws.take (i + 1) = ws.take i ++ [u] := fun {i u} e => by rw [List.take_add_one, e]; rfl
   refine ⟨_, rfl, l, rfl, ⟨_, .of hL⟩, ?_⟩
   refine qbh (K := K) (a := l) (xs := ps.map V.ref) (fun i σ H' => ∃ v2 v3, σ = [some (.ref l), some (.int (xorAll (numsW (ws.take i)) : Nat)), v2, v3, none] /\ H' = H) ⟨none, none, rfl, rfl⟩ (fun i σ H' _ ⟨_, _, _, e⟩ => e ▸ .of hL) ?_ ?_
   . rintro i x σ H' hx ⟨v2, v3, rfl, rfl⟩
     obtain ⟨p, u, rfl, ew, hT⟩ := item hx
     refine ⟨p, _, rfl, .of hT, rfl, _, _, rfl, _, _, rfl, rfl, _, rfl, rfl, _, rfl, ?_⟩
     rw [tk ew, nums_snoc]
     cases u with
     | num n =>
       have e : decide (V.str (wordW (.num n)) = V.str (Str.ofString "number")) = true := decide_eq_true rfl
       rw [e]
       refine iteT ⟨_, rfl, _, rfl, _, _, rfl, rfl, some (.str (wordW (.num n))), some (.int (valW (.num n) : Nat)), ?_, rfl⟩
       show _ = [_, some (V.int ((xorAll (numsW (ws.take i) ++ [n]) : Nat) : Int)), _, _, _]
       rw [xorAll_snoc, ← bx]
       rfl
     | edl b =>
       have e : decide (V.str (wordW (.edl b)) = V.str (Str.ofString "number")) = false := wN
       rw [e]
       refine iteF ⟨some (.str (wordW (.edl b))), some (.int (valW (.edl b) : Nat)), ?_, rfl⟩
       show _ = [_, some (V.int ((xorAll (numsW (ws.take i) ++ []) : Nat) : Int)), _, _, _]
       rw [List.append_nil]
       rfl
   . rintro σ H' ⟨v2, v3, rfl, rfl⟩
     rw [List.length_map, hTl.1, List.take_of_length_le (Nat.le_refl _)]
     refine ⟨_, rfl, l, rfl, ⟨_, .of hL⟩, fun D hD => ?_⟩
     refine qbk (K := K) (a := l) (xs := ps.map V.ref) (fun i σ' G => ∃ v0 v1, σ' = [v0, v1] /\ G = upd H' D (.lst (iNs (setsW (ws.take i))))) ⟨none, none, rfl, rfl⟩ (fun i σ' G _ ⟨_, _, _, e⟩ => e ▸ .of (qai hL hD)) ?_ ?_
     . rintro i x σ' G hx ⟨v0, v1, rfl, rfl⟩
       obtain ⟨p, u, rfl, ew, hT⟩ := item hx
       refine ⟨p, _, rfl, .of (qai hT hD), rfl, _, _, rfl, _, _, rfl, rfl, _, rfl, rfl, _, rfl, ?_⟩
       rw [tk ew, sets_snoc]
       have l1 : (iNs (setsW (ws.take i))).length < sizeLine := by
         rw [iNs_len]
         refine small1000 (Nat.le_trans (sets_len _) ?_)
         rw [List.length_take]
         omega
       cases u with
       | num n =>
         have e : decide (V.str (wordW (.num n)) = V.str (Str.ofString "endless")) = false := wE
         rw [e]
         refine iteF ⟨_, _, rfl, ?_⟩
         rw [List.append_nil]
       | edl b =>
         have e : decide (V.str (wordW (.edl b)) = V.str (Str.ofString "endless")) = true := decide_eq_true rfl
         rw [e]
         refine iteT ⟨_, rfl, _, qab, l1, _, _, rfl, ?_⟩
         rw [qbl, ← iNs_snoc]
         rfl
     . rintro σ' G ⟨v0, v1, rfl, rfl⟩
       rw [List.length_map, hTl.1, List.take_of_length_le (Nat.le_refl _)]
       have s1 : Same H' (upd H' D (.lst (iNs (setsW ws)))) := qaf hD
       have c1 : upd H' D (.lst (iNs (setsW ws))) D = some (.lst (iNs (setsW ws))) := qab
       generalize upd H' D (.lst (iNs (setsW ws))) = G at s1 c1 ⊢
       have hlt := sets_lt hok
       have hx16 := xorAll_lt (nums_lt hok)
       refine ⟨_, rfl, by show 0 <= sizeLine; decide, fun pe hpe => ?_⟩
       have s2 : Same G (upd G pe (.lst [])) := qaf hpe
       refine ⟨.list ((setsW ws).map fun n => PyData.int (n : Nat)), .list [], .lst (.of (s2 _ _ c1)) (DVs_iNs _), .lst (.of qab) .nil, shaped1 _, by decide, _, rfl, ?_⟩
       rw [eqv_nil]
       have c2 := s2 _ _ c1
       have s3 := s1.trans s2
       generalize upd G pe (.lst []) = G2 at s3 c2 ⊢
       have fin : ∀ (p : Addr) (G9 : Hp) (u : Rb.W), Same H' G9 -> G9 p = none -> totW ws = u -> Q (.ref p) (upd G9 p (.tup [.str (wordW u), .int (valW u : Nat)])) := fun p G9 u s9 hp eu =>
         q _ _ (s9.trans (qaf hp)) (by rw [eu, tW_eq]; exact qab)
       cases hs : setsW ws with
       | nil =>
         rw [decide_eq_true rfl]
         have et : totW ws = .num (xorAll (numsW ws)) := by unfold totW; rw [hs]
         refine iteT ⟨_, rfl, by show 2 <= sizeLine; decide, fun p hp => fin p _ _ s3 hp et⟩
       | cons b r =>
         rw [hs] at c2 hlt
         rw [decide_eq_false (by simp)]
         refine iteF ⟨_, rfl, D, _, rfl, .inl (.of c2), _, _, rfl, rfl, _, rfl, ?_⟩
         cases r with
         | nil =>
           have et : totW ws = .edl (turnN b (xorAll (numsW ws)) 16) := by unfold totW; rw [hs]
           refine iteF ⟨16, rfl, by decide, by decide, fun U hU => ?_⟩
           generalize xorAll (numsW ws) = n at hx16 et ⊢
           refine blk_fmR (n := 16) (out := fun j => if (fun k => b.testBit (k ^^^ n)) j = true then some (V.int ((2 ^ j : Nat) : Int)) else none) (rest := [some (.ref D), some (.int (n : Nat))]) hU (by decide) ?_ ?_ ?_
           . intro x hx G' s5 R kk
             refine ⟨_, rfl, D, _, 0, _, rfl, rfl, .of (s5 _ _ c2), rfl, _, rfl, _, rfl, _, _, rfl, rfl, _, _, rfl, rfl, ?_, _, _, rfl, rfl, rfl, _, rfl, ?_⟩
             . rw [bx]; omega
             . have := kk G' fun _ _ h => h
               have e7 : Builtin.bitAnd ((b : Int) / 2 ^ (Builtin.bitXor (x : Int) (n : Int)).toNat) 1 = (((b.testBit (x ^^^ n)).toNat : Nat) : Int) := by rw [bx, shr_bit]
               show R (decide (V.int (Builtin.bitAnd ((b : Int) / 2 ^ (Builtin.bitXor (x : Int) (n : Int)).toNat) 1) = V.int 1)) G'
               rw [e7]
               cases c : b.testBit (x ^^^ n) with
               | true => rw [if_pos c] at this; exact this
               | false => rw [if_neg (by simp [c])] at this; exact this
           . intro x hx v ev G' s5 R kk
             have : v = V.int ((2 ^ x : Nat) : Int) := by
               split at ev
               . exact (Option.some.inj ev).symm
               . cases ev
             subst this
             refine ⟨_, rfl, 1, (x : Int), rfl, rfl, ⟨by omega, by omega, by decide⟩, ?_⟩
             have e9 : (1 : Int) * 2 ^ ((x : Int).toNat) = ((2 ^ x : Nat) : Int) := by
               rw [Int.one_mul, Int.toNat_natCast]
               exact (Int.natCast_pow 2 x).symm
             show R (.int ((1 : Int) * 2 ^ ((x : Int).toNat))) G'
             rw [e9]
             exact kk G' fun _ _ h => h
           . intro G4 s4 hU4
             rw [fm_pow (fun k => b.testBit (k ^^^ n))] at hU4
             have es := sum_turn (b := b) hx16
             have lt : turnN b n 16 < 65536 := turn_lt (k := 4) (Nat.le_refl _) hx16
             refine ⟨U, _, rfl, .of hU4, by rw [es]; omega, ?_⟩
             rw [es]
             exact ⟨by show 2 <= sizeLine; decide, fun p hp => fin p _ _ (s3.trans s4) hp et⟩
         | cons b2 r =>
           have et : totW ws = .edl 0 := by unfold totW; rw [hs]
           have e : decide ((1 : Int) < ((iNs (b :: b2 :: r)).length : Int)) = true := decide_eq_true (by rw [iNs_len]; simp only [List.length_cons]; omega)
           rw [e]
           refine iteT ⟨by show 2 <= sizeLine; decide, fun p hp => fin p _ _ s3 hp et⟩
theorem scLO : FnScope ["_law_worth"] ["_law_worth"] (defScope sLO) := ⟨rfl, rfl, rfl, by decide +kernel, rfl, by decide +kernel, by decide +kernel⟩
theorem ok_lo {f : Addr} {fd : FuncData} (F : Fun K "_law_outcome" "_law_outcome" sLO f fd) (B : Blt mg) : FnOk P w K mg base CX0 1 f fd ["_law_worth"] spLO := by
 refine F.okJ scLO (fun vs H Q E h => ?_) (fun cdv A outer s H vs Q E hr h => ?_)
 . obtain ⟨t, u, rfl, _⟩ := h
   rfl
 . obtain ⟨t, u, rfl, ht, q⟩ := h
   refine ⟨_, qac (qba (qak op_eq (qbs qbu (jv 0) qag (fun _ _ => rfl)) qat (nomark _))
       (qae (qal (qbs qcq (qck (qaa qat (qaa qat qad))) (qbn call_int1 (by rfl) B.int boot_int (qaa (qcn op_gt (qbs qbu (jv 0) qag (fun _ _ => rfl)) qag (nomark _)) qad)) (fun _ _ => rfl)))) qap)
     (qae (qal (qbs qcq (qck (qaa qat (qaa qat qad))) (qau op_mod (qbs qbu (jv 0) qag (fun _ _ => rfl)) qag) (fun _ _ => rfl)))), ?_⟩
   cases u with
   | num n =>
     refine ⟨_, rfl, t, _, 0, _, rfl, rfl, .of ht, rfl, rfl, _, rfl, iteT_of (by decide +kernel) ?_⟩
     refine ⟨by show 2 <= sizeLine; decide, fun l hl => ⟨_, rfl, t, _, 1, _, rfl, rfl, .of (qai ht hl), rfl, _, _, rfl, rfl, .inr ⟨_, rfl, ?_⟩⟩⟩
     have q := q _ (qaf (o := HO.lst [.str "lost", .str "won"]) hl)
     have q : Q (.str (if n = 0 then "lost" else "won")) (upd H l (.lst [.str "lost", .str "won"])) := q
     by_cases c : n = 0
     . rw [if_pos c] at q
       subst c
       exact ⟨l, _, _, _, rfl, rfl, .of qab, rfl, q⟩
     . rw [if_neg c] at q
       rw [decide_eq_true (show (0 : Int) < ((n : Nat) : Int) by omega)]
       exact ⟨l, _, _, _, rfl, rfl, .of qab, rfl, q⟩
   | edl b =>
     refine ⟨_, rfl, t, _, 0, _, rfl, rfl, .of ht, rfl, rfl, _, rfl, qcx (by decide +kernel) ?_⟩
     refine ⟨by show 2 <= sizeLine; decide, fun l hl => ⟨_, rfl, t, _, 1, _, rfl, rfl, .of (qai ht hl), rfl, _, _, rfl, rfl, show (0 : Int) < 2 by decide, ?_⟩⟩
     have q := q _ (qaf (o := HO.lst [.str "drawn", .str "won"]) hl)
     have q : Q (.str (if b.testBit 0 = true then "won" else "drawn")) (upd H l (.lst [.str "drawn", .str "won"])) := q
     have eb : b.testBit 0 = decide (b % 2 = 1) := Nat.testBit_zero b
     rw [eb] at q
     rcases Nat.mod_two_eq_zero_or_one b with c | c
     . have e : (((b : Nat) : Int) % 2) = 0 := by omega
       rw [if_neg (by rw [c]; decide)] at q
       refine ⟨l, _, _, _, rfl, rfl, .of qab, ?_, q⟩
       show atI _ (((b : Nat) : Int) % 2) = _
       rw [e]
       rfl
     . have e : (((b : Nat) : Int) % 2) = 1 := by omega
       rw [if_pos (by rw [c]; decide)] at q
       refine ⟨l, _, _, _, rfl, rfl, .of qab, ?_, q⟩
       show atI _ (((b : Nat) : Int) % 2) = _
       rw [e]
       rfl
end
end Rh
set_option Elab.async false
set_option linter.all false
set_option maxRecDepth 100000
set_option maxHeartbeats 4000000
namespace Rh
open PySem L2 PyProof.Rows MLab Rb
theorem gOf_fil {rs : Rws} (g : GoodRows rs) {z : Str} (hz : z ∈ rs.map (·.1)) : gOf rs z = (rs.map (·.1)).filter fun y => decide (y ∈ ldOf rs z) := by
 obtain ⟨r, hr, rfl⟩ := List.mem_map.mp hz
 rw [gOf_row g.nd hr, ldOf_row g.nd hr]
 unfold rdOf
 exact List.filter_congr fun y _ => by rw [Bool.eq_iff_iff, inV_iff, decide_eq_true_iff]
theorem lf_cut {hs : List Str} {j : Nat} (h : j < hs.length) (y : Str) : hs.take j ++ [y] ++ hs.drop (j + 1) = lf hs (j, y) := by
 unfold lf
 rw [List.set_eq_take_append_cons_drop, if_pos h]
 simp
def osF (rs : Rws) (F : Str -> Rb.W) (hs : List Str) : List ((Nat × Str) × Str) := (mvs rs hs hs.length).map fun m => (m, outW (totW ((lf hs m).map F)))
theorem osF_eq {rs : Rws} (g : GoodRows rs) {F : Str -> Rb.W} {R : Rs Str} {hs : List Str} (hi : ∀ z ∈ hs, ∃ r ∈ rs, r.1 = z) (h : ∀ z ∈ rs.map (·.1), F z = wT rs R z) : osF rs F hs = osOf rs R hs := by
 unfold osF osOf
 refine List.map_congr_left fun m hm => ?_
 have : (lf hs m).map F = (lf hs m).map (wT rs R) := List.map_congr_left fun z hz => by
   obtain ⟨r, hr, e⟩ := lf_in g hi hm z hz
   exact h z (List.mem_map.mpr ⟨r, hr, e⟩)
 rw [this]
theorem cutL_lo {zs : List Str} {i : Nat} (h : i <= zs.length) : cutV (zs.map V.str) none (some (i : Int)) = (zs.take i).map V.str := by
 unfold cutV
 rw [HT.sIx_none, HT.sIx_nat, List.length_map, Nat.min_eq_left h, List.map_take]
 rfl
theorem cutL_hi {zs : List Str} {i : Nat} (h : i <= zs.length) : cutV (zs.map V.str) (some (i : Int)) none = (zs.drop i).map V.str := by
 unfold cutV
 rw [HT.sIx_none, HT.sIx_nat, List.length_map, Nat.min_eq_left h, List.map_drop]
 exact List.take_of_length_le (by rw [List.length_drop, List.length_map]; exact Nat.le_refl _)
def spLAf : Sp := fun vs H Q _ => ∃ (l D h : Addr) (ps : List Addr) (rs : Rws) (F : Str -> Rb.W) (hs : List Str), vs = [.ref l, .ref D, .ref h] /\ GoodAt H l ps rs /\ WtP H D F (rs.map (·.1)) /\ (∀ z ∈ rs.map (·.1), okW (F z)) /\ HeapAt H h rs hs ∧
 ∀ H' L ts, Same H H' -> H L = none -> H' L = some (.lst (ts.map V.ref)) -> OsAt H' ts (osF rs F hs) -> Q (.ref L) H'
def bmW (ws : List Str) : Str := if Str.ofString "lost" ∈ ws then "won" else if Str.ofString "drawn" ∈ ws then "drawn" else "lost"
def spBM : Sp := fun vs H Q _ => ∃ (l : Addr) (ts : List Addr) (os : List ((Nat × Str) × Str)), vs = [.ref l] /\ H l = some (.lst (ts.map V.ref)) /\ OsAt H ts os /\ os.length <= 200 /\ ∀ H', Same H H' -> Q (.str (bmW (os.map (·.2)))) H'
theorem OsAt.item {H : Hp} {ts : List Addr} {os : List ((Nat × Str) × Str)} (h : OsAt H ts os) {i : Nat} {x : V} (e : (ts.map V.ref)[i]? = some x) : ∃ t p o, x = .ref t /\ ts[i]? = some t /\ os[i]? = some o /\ H t = some (.tup [.ref p, .str o.2]) /\ H p = some (.tup (mvV o.1)) := by
 rw [List.getElem?_map] at e
 cases ep : ts[i]? with
 | none => rw [ep] at e; cases e
 | some t =>
   rw [ep] at e
   have hi := (List.getElem?_eq_some_iff.mp ep).1
   have hi' : i < os.length := by rw [← h.1]; exact hi
   obtain ⟨p, a, b⟩ := h.2 i t _ ep (List.getElem?_eq_getElem hi')
   exact ⟨t, p, _, (Option.some.inj e).symm, rfl, List.getElem?_eq_getElem hi', a, b⟩
section
variable {P : Program} {w : World} {K : PySem.W.Frag} {mg : Str -> Option Value} {base : Heap}
abbrev nLAf : List Str := ["_law_rows_here", "_law_worths_here", "_law_heap_here", "_law_leads_here", "_law_found", "_law_token", "_law_name", "_law_others", "_law_left"]
abbrev pLAf : List Str := ["_law_rows_here", "_law_worths_here", "_law_heap_here"]
theorem scLAf : FnScope nLAf pLAf (defScope sLAf) := ⟨rfl, rfl, rfl, by decide +kernel, rfl, by decide +kernel, by decide +kernel⟩
theorem ok_laf {f fT fO : Addr} {fd fdT fdO : FuncData} (F : Fun K "_law_after" "_law_after" sLAf f fd) (B : Blt mg) (T : KitP K mg) (hdi : mg "dict" = none) (hT : Has K mg "_law_total" sTotal ["_law_worths_here"] fT fdT) (hO : Has K mg "_law_outcome" sLO ["_law_worth"] fO fdO) : FnOk P w K mg base CX0 2 f fd pLAf spLAf := by
 have GT : FnOk P w K mg base CX0 1 fT fdT ["_law_worths_here"] spTot := ok_total hT.fn B T
 have GO : FnOk P w K mg base CX0 1 fO fdO ["_law_worth"] spLO := ok_lo hO.fn B
 refine F.okJ scLAf (fun vs H Q E h => ?_) (fun cdv A outer s H vs Q E hr h => ?_)
 . obtain ⟨l, D, h', ps, rs, Fw, hs, rfl, _⟩ := h
   rfl
 . obtain ⟨l, D, h', ps, rs, Fw, hs, rfl, g, wt, okF, hh, q⟩ := h
   have hu := hu_of hr
   refine ⟨_, qac (qao (i := 3) scLAf.nd rfl (Or.inl rfl) (qbn (call_dictP rfl) (by rfl) hdi boot_dict (qaa (jv 0) qad)))
     (qac (qao (i := 4) scLAf.nd rfl (Or.inl rfl) (qck qad))
     (qac (qbf PassesOwn.never rfl (qaw (by rfl) B.rng (qaa (qan qas (by rfl) B.len boot_len (qaa (jv 2) qad)) qad)) (qaj (i := 5) scLAf.nd rfl (Or.inl rfl))
       (qae (qbf PassesOwn.never rfl (qar (jv 0)) (jg_tup rfl (qbg (qaj (i := 6) scLAf.nd rfl (Or.inl rfl)) (qbg (qaj (i := 7) scLAf.nd rfl (Or.inl rfl)) jgs_nil)))
         (qae (qba (qak qca (jv 6) (qbd hu (jv 3) (qbs qcq (jv 2) (jv 5) (fun _ _ => rfl)) (fun _ _ => rfl)) (by with_unfolding_all rfl))
           (qac (qao (i := 8) scLAf.nd rfl (Or.inl rfl) (qau op_addL (qau op_addL (je_slice sl_list (jv 2) jo_none (jo_some (jv 5))) (qck (qaa (jv 6) qad))) (je_slice sl_list (jv 2) (jo_some (qau op_add (jv 5) qag)) jo_none)))
           (qae (qbp (je_bm PySem.F.plainAttrs_list PySem.F.slot_list_append PySem.F.type_list_append mt_append (jv 4) (qaa (qcb (qaa (qcb (qaa (jv 5) (qaa (jv 6) qad))) (qaa
             (je_f hO GO hr (by rfl) (qaa (je_f hT GT hr (by rfl) (qaa (qcg (N' := ["_law_one", "_law_worths_here"]) (ix := [none, some 1]) rfl ⟨rfl, rfl, rfl, rfl, rfl⟩ (qar (jv 8)) (fun C s2 H2 fp pins =>
               ⟨qaj (i := 0) (show (["_law_one", "_law_worths_here"] : List Str).Nodup by decide +kernel) rfl (Or.inl rfl), qbo, qbd hu (jv 1) (jv 0) (fun _ _ => rfl)⟩)) qad)) qad)) qad))) qad)))))
           qap)))))
     (qae (qal (jv 4))))), ?_⟩
   have good := g.good
   have le14 := g.le
   have l8 := hh.le
   refine ⟨_, rfl, nil_in (dict_all g fun d kvs hd ek hv => ?_)⟩
   have s1 : Same H (upd H d (.dK kvs)) := qaf hd
   have hd1 : upd H d (.dK kvs) d = some (.dK kvs) := qab
   generalize upd H d (.dK kvs) = H1 at s1 hd1
   refine ⟨by show 0 <= sizeLine; decide, fun L hL => ?_⟩
   have hL0 : H L = none := qbm s1 hL
   have s2 : Same H1 (upd H1 L (.lst [])) := qaf hL
   have hL2 : upd H1 L (.lst []) L = some (.lst []) := qab
   generalize upd H1 L (.lst []) = H2 at s2 hL2
   have s02 := s1.trans s2
   have hd2 := s2 _ _ hd1
   have ndL : d ≠ L := fun e => by rw [e, hL2] at hd2; cases hd2
   refine ⟨_, rfl, h', _, rfl, .inl (.of (s02 _ _ hh.at_)), _, rfl, ?_, ?_, ?_⟩
   . omega
   . rw [List.length_map]; omega
   let gg : Nat × Str -> (Nat × Str) × Str := fun m => (m, outW (totW ((lf hs m).map Fw)))
   refine qcc (fun j σ G => ∃ (v5 v6 v7 v8 : Option V) (ts : List Addr), σ = [some (.ref l), some (.ref D), some (.ref h'), some (.ref d), some (.ref L), v5, v6, v7, v8] /\ Same H G /\ G d = some (.dK kvs) /\ G L = some (.lst (ts.map V.ref)) /\ OsAt G ts ((mvs rs hs j).map gg))
     ⟨none, none, none, none, [], rfl, s02, hd2, hL2, .nil⟩ ?_ ?_
   . rintro j σ G hj ⟨v5, v6, v7, v8, ts, rfl, sG, hdG, hLG, os⟩
     rw [Int.zero_add]
     have hj : j < hs.length := by
       rw [List.length_map] at hj
       simpa using hj
     have ez := zAt_get hj
     have hz : zAt hs j ∈ rs.map (·.1) := by
       obtain ⟨r, hr', e⟩ := hh.in_ _ (zAt_mem hj)
       exact List.mem_map.mpr ⟨r, hr', e⟩
     have lmj := mvs_len good le14 hh.in_ j (Nat.le_of_lt hj)
     refine ⟨_, rfl, l, rfl, ⟨_, .of (sG _ _ g.at_)⟩, ?_⟩
     refine qbh (K := K) (a := l) (xs := ps.map V.ref) (fun i σ' G2 => ∃ (v6 v7 v8 : Option V) (ts : List Addr), σ' = [some (.ref l), some (.ref D), some (.ref h'), some (.ref d), some (.ref L), some (.int (j : Nat)), v6, v7, v8] /\ Same H G2 /\ G2 d = some (.dK kvs) /\ G2 L = some (.lst (ts.map V.ref)) ∧
         OsAt G2 ts ((mvs rs hs j).map gg ++ (((rs.map (·.1)).take i).filter fun y => decide (y ∈ ldOf rs (zAt hs j))).map fun y => gg (j, y)))
       ⟨v6, v7, v8, ts, rfl, sG, hdG, hLG, by simpa using os⟩ (fun i σ' G2 _ ⟨_, _, _, _, _, s, _⟩ => .of (s _ _ g.at_)) ?_ ?_
     . rintro i x σ' G2 hx ⟨v6', v7', v8', ts2, rfl, sG2, hd2', hL2', os2⟩
       obtain ⟨p, qq, r, rfl, er, hr', ha, hb⟩ := (g.rows.mono sG2).item hx
       have hi := (List.getElem?_eq_some_iff.mp er).1
       have eN : (rs.map (·.1))[i]? = some r.1 := by rw [List.getElem?_map, er]; rfl
       obtain ⟨rz, hrz, erz⟩ := List.mem_map.mp hz
       obtain ⟨q0, ev, hq0⟩ := hv rz hrz
       have gd := DGet.k (k := (Sum.inr rz.1 : Key)) hd2'
       rw [ev, erz] at gd
       have hq2 := sG2 _ _ hq0
       have eld : ldOf rs (zAt hs j) = rz.2 := by rw [← erz, ldOf_row good.nd hrz]
       have ea : atI (hs.map V.str) ((j : Nat) : Int) = some (V.str (zAt hs j)) := atI_nat (by rw [List.getElem?_map, ez]; rfl)
       have hh2 := sG2 _ _ hh.at_
       have los := os2.1
       have lf1 : ((((rs.map (·.1)).take i).filter fun y => decide (y ∈ ldOf rs (zAt hs j))).map fun y => gg (j, y)).length <= 14 := by
         rw [List.length_map]
         refine Nat.le_trans (List.length_filter_le _ _) ?_
         rw [List.length_take, List.length_map]
         omega
       rw [List.length_append, List.length_map] at los
       refine ⟨p, _, rfl, .of ha, rfl, _, _, rfl, _, _, rfl, rfl, ?_⟩
       refine ⟨_, rfl, _, rfl, _, rfl, _, rfl, h', _, _, _, rfl, rfl, .of hh2, ea, d, _, rfl, gd, q0, _, rfl, .inr (.of hq2), rfl, qct _, _, rfl, ?_⟩
       show if inV (.str r.1) (rz.2.map V.str) = true then _ else _
       by_cases c : r.1 ∈ rz.2
       . rw [inV_iff.mpr c]
         refine iteT ?_
         refine ⟨_, rfl, _, rfl, _, rfl, h', _, rfl, .of hh2, fun p1 hp1 => ?_⟩
         rw [cutL_lo (Nat.le_of_lt hj)]
         refine ⟨_, rfl, by show 1 <= sizeLine; decide, fun p2 hp2 => ?_⟩
         refine ⟨p1, p2, _, _, rfl, rfl, .of (qai qab hp2), .of qab, ?_, fun p3 hp3 => ?_⟩
         . rw [List.length_map, List.length_take]
           exact Nat.le_of_lt (small1000 (by show min j hs.length + 1 <= 1000; omega))
         have sA : Same G2 (upd (upd (upd G2 p1 (.lst ((hs.take j).map V.str))) p2 (.lst [V.str r.1])) p3 (.lst ((hs.take j).map V.str ++ [V.str r.1]))) := ((qaf hp1).trans (qaf hp2)).trans (qaf hp3)
         have hA : upd (upd (upd G2 p1 (.lst ((hs.take j).map V.str))) p2 (.lst [V.str r.1])) p3 (.lst ((hs.take j).map V.str ++ [V.str r.1])) p3 = some (.lst ((hs.take j).map V.str ++ [V.str r.1])) := qab
         generalize upd (upd (upd G2 p1 (.lst ((hs.take j).map V.str))) p2 (.lst [V.str r.1])) p3 (.lst ((hs.take j).map V.str ++ [V.str r.1])) = G3 at sA hA
         have ei : ((j : Int) + 1) = ((j + 1 : Nat) : Int) := by omega
         refine ⟨_, rfl, _, rfl, _, _, rfl, rfl, _, rfl, h', _, rfl, .of (sA _ _ hh2), fun p4 hp4 => ?_⟩
         rw [ei, cutL_hi hj]
         refine ⟨p3, p4, _, _, rfl, rfl, .of (qai hA hp4), .of qab, ?_, fun p5 hp5 => ?_⟩
         . rw [List.length_append, List.length_map, List.length_map, List.length_take, List.length_drop]
           exact Nat.le_of_lt (small1000 (by show min j hs.length + 1 + (hs.length - (j + 1)) <= 1000; omega))
         have el : (hs.take j).map V.str ++ [V.str r.1] ++ (hs.drop (j + 1)).map V.str = (lf hs (j, r.1)).map V.str := by
           rw [← lf_cut hj, List.map_append, List.map_append]
           rfl
         rw [el]
         have sB : Same G2 (upd (upd G3 p4 (.lst ((hs.drop (j + 1)).map V.str))) p5 (.lst ((lf hs (j, r.1)).map V.str))) := (sA.trans (qaf hp4)).trans (qaf hp5)
         have hB : upd (upd G3 p4 (.lst ((hs.drop (j + 1)).map V.str))) p5 (.lst ((lf hs (j, r.1)).map V.str)) p5 = some (.lst ((lf hs (j, r.1)).map V.str)) := qab
         generalize upd (upd G3 p4 (.lst ((hs.drop (j + 1)).map V.str))) p5 (.lst ((lf hs (j, r.1)).map V.str)) = G4 at sB hB
         have hm : (j, r.1) ∈ mvs rs hs hs.length := List.mem_flatMap.mpr ⟨j, List.mem_range.mpr hj, List.mem_map.mpr ⟨r.1, by rw [gOf_fil good hz]; exact List.mem_filter.mpr ⟨List.mem_map.mpr ⟨r, hr', rfl⟩, decide_eq_true (by rw [eld]; exact c)⟩, rfl⟩⟩
         have lin := lf_in good hh.in_ hm
         have llf : (lf hs (j, r.1)).length = hs.length := by unfold lf; rw [List.length_set]
         have hL4 := sB _ _ hL2'
         refine ⟨_, rfl, .inl ⟨rfl, _, .of hL4⟩, _, rfl, _, rfl, by show 2 <= sizeLine; decide, fun pm hpm => ?_⟩
         have sC : Same G2 (upd G4 pm (.tup [.int (j : Nat), .str r.1])) := sB.trans (qaf hpm)
         have hC : upd G4 pm (.tup [.int (j : Nat), .str r.1]) pm = some (.tup (mvV (j, r.1))) := qab
         have hB5 : upd G4 pm (.tup [.int (j : Nat), .str r.1]) p5 = some (.lst ((lf hs (j, r.1)).map V.str)) := qai hB hpm
         generalize upd G4 pm (.tup [.int (j : Nat), .str r.1]) = G5 at sC hC hB5
         have wt5 := (wt.mono sG2).mono sC
         refine ⟨_, rfl, p5, rfl, ⟨_, .of hB5⟩, fun W hW => ?_⟩
         refine qbk (K := K) (a := p5) (xs := (lf hs (j, r.1)).map V.str) (fun m σ'' G6 => ∃ (v0 : Option V) (us : List Addr), σ'' = [v0, some (.ref D)] /\ Same G5 G6 /\ G6 W = some (.lst (us.map V.ref)) /\ Tl G6 us (((lf hs (j, r.1)).take m).map Fw))
           ⟨none, [], rfl, qaf hW, qab, rfl, fun i p u e => (nomatch e)⟩ (fun m σ'' G6 _ ⟨_, _, _, s, _⟩ => .of (s _ _ hB5)) ?_ ?_
         . rintro m y σ'' G6 hy ⟨v0, us, rfl, s6, hW6, tl⟩
           obtain ⟨z, ezz, hzz, rfl⟩ := strs_at hy
           have hm' := (List.getElem?_eq_some_iff.mp ezz).1
           obtain ⟨rr, hrr, err⟩ := lin z hzz
           obtain ⟨t, gt, ht⟩ := (wt5.mono s6).get (z := z) (List.mem_map.mpr ⟨rr, hrr, err⟩)
           have lu := tl.1
           rw [List.length_map, List.length_take] at lu
           refine ⟨_, rfl, _, rfl, D, _, rfl, gt, _, hW6, by rw [List.length_map]; exact small1000 (by omega), _, us ++ [t], rfl, Same.upd s6 hW, by rw [List.map_append]; exact qab, ?_⟩
           rw [List.take_add_one, ezz, List.map_append]
           exact (tl.snoc (u := Fw z) ht).tk (TK.upd hW6 fun xs => by simp)
         . rintro σ'' G6 ⟨v0, us, rfl, s6, hW6, tl⟩
           rw [List.length_map, List.take_of_length_le (Nat.le_refl _)] at tl
           refine ⟨W, us, _, rfl, hW6, tl, fun u hu => ?_, by rw [List.length_map, llf]; exact l8, fun G7 t s7 ht => ?_⟩
           . obtain ⟨z, hzz, rfl⟩ := List.mem_map.mp hu
             obtain ⟨rr, hrr, err⟩ := lin z hzz
             exact okF z (List.mem_map.mpr ⟨rr, hrr, err⟩)
           . refine ⟨t, _, rfl, ht, fun G8 s8 => ?_⟩
             refine ⟨by show 2 <= sizeLine; decide, fun tt htt => ?_⟩
             have s58 : Same G5 G8 := s6.trans (s7.trans s8)
             have s28 : Same G2 (upd G8 tt (.tup [.ref pm, .str (outW (totW ((lf hs (j, r.1)).map Fw)))])) := sC.trans (s58.trans (qaf htt))
             have htt9 : upd G8 tt (.tup [.ref pm, .str (outW (totW ((lf hs (j, r.1)).map Fw)))]) tt = some (.tup [.ref pm, .str (outW (totW ((lf hs (j, r.1)).map Fw)))]) := qab
             have hpm9 : upd G8 tt (.tup [.ref pm, .str (outW (totW ((lf hs (j, r.1)).map Fw)))]) pm = some (.tup (mvV (j, r.1))) := qai (s58 _ _ hC) htt
             generalize upd G8 tt (.tup [.ref pm, .str (outW (totW ((lf hs (j, r.1)).map Fw)))]) = G9 at s28 htt9 hpm9
             have hL9 := s28 _ _ hL2'
             have tkL : TK G9 (upd G9 L (.lst (ts2.map V.ref ++ [V.ref tt]))) := TK.upd hL9 fun xs => by simp
             refine ⟨L, _, _, rfl, rfl, hL9, by rw [List.length_map]; exact small1000 (by omega), _, _, _, ts2 ++ [tt], rfl, Same.upd (sG2.trans s28) hL0, by rw [qah ndL]; exact s28 _ _ hd2', by rw [List.map_append]; exact qab, ?_⟩
             have e5 : ((rs.map (·.1)).take (i + 1)).filter (fun y => decide (y ∈ ldOf rs (zAt hs j))) = ((rs.map (·.1)).take i).filter (fun y => decide (y ∈ ldOf rs (zAt hs j))) ++ [r.1] := by
               rw [List.take_add_one, eN, List.filter_append]
               have : (some r.1).toList.filter (fun y => decide (y ∈ ldOf rs (zAt hs j))) = [r.1] := by simp [eld, c]
               rw [this]
             rw [e5, List.map_append, ← List.append_assoc]
             exact ((os2.tk (.of s28)).snoc (t := tt) (p := pm) (o := gg (j, r.1)) htt9 hpm9).tk tkL
       . have e0 : inV (.str r.1) (rz.2.map V.str) = false := by
           cases z : inV (.str r.1) (rz.2.map V.str) with
           | false => rfl
           | true => exact absurd (inV_iff.mp z) c
         rw [e0]
         refine iteF ⟨_, _, _, ts2, rfl, sG2, hd2', hL2', ?_⟩
         have e5 : ((rs.map (·.1)).take (i + 1)).filter (fun y => decide (y ∈ ldOf rs (zAt hs j))) = ((rs.map (·.1)).take i).filter (fun y => decide (y ∈ ldOf rs (zAt hs j))) := by
           rw [List.take_add_one, eN, List.filter_append]
           have : (some r.1).toList.filter (fun y => decide (y ∈ ldOf rs (zAt hs j))) = [] := by simp [eld, c]
           rw [this, List.append_nil]
         rw [e5]
         exact os2
     . rintro σ' G2 ⟨v6', v7', v8', ts2, rfl, sG2, hd2', hL2', os2⟩
       rw [List.length_map, g.rows.1, ← List.length_map (f := (·.1)) (as := rs), List.take_of_length_le (Nat.le_refl _), ← gOf_fil good hz] at os2
       refine ⟨_, _, _, _, ts2, rfl, sG2, hd2', hL2', ?_⟩
       rw [mvs_succ, List.map_append]
       unfold mvT
       rw [List.map_map]
       exact os2
   . rintro σ G ⟨v5, v6, v7, v8, ts, rfl, sG, hdG, hLG, os⟩
     rw [List.length_map, Int.toNat_natCast] at os
     exact ⟨_, rfl, q G L ts sG hL0 hLG os⟩
theorem scBM : FnScope ["_law_due", "_law_words"] ["_law_due"] (defScope sBM) := ⟨rfl, rfl, rfl, by decide +kernel, rfl, by decide +kernel, by decide +kernel⟩
theorem ok_bm {f : Addr} {fd : FuncData} (F : Fun K "_law_by_moves" "_law_by_moves" sBM f fd) : FnOk P w K mg base CX0 1 f fd ["_law_due"] spBM := by
 refine F.okJ scBM (fun vs H Q E h => ?_) (fun cdv A outer s H vs Q E hr h => ?_)
 . obtain ⟨l, ts, os, rfl, _⟩ := h
   rfl
 . obtain ⟨l, ts, os, rfl, hl, ho, l200, q⟩ := h
   refine ⟨_, qac (qcw (i := 1) (N' := ["_law_move", "_law_word"]) (ix := [none, none]) (g := gTup K 2 (gCons (gName 0) (gCons (gName 1) gNil))) scBM.nd rfl (Or.inl rfl) rfl ⟨rfl, rfl, rfl, rfl, rfl⟩ (qar (jv 0))
         (fun C s2 H2 fp pins => ⟨jg_tup rfl (qbg (qaj (i := 0) (show (["_law_move", "_law_word"] : List Str).Nodup by decide +kernel) rfl (Or.inl rfl)) (qbg (qaj (i := 1) (show (["_law_move", "_law_word"] : List Str).Nodup by decide +kernel) rfl (Or.inl rfl)) jgs_nil)), qbo, jv 1⟩))
     (qac (qba (qak qca qat (jv 1) (by with_unfolding_all rfl)) (qae (qal qat)) qap)
     (qac (qba (qak qca qat (jv 1) (by with_unfolding_all rfl)) (qae (qal qat)) qap)
     (qae (qal qat)))), ?_⟩
   refine ⟨_, rfl, l, rfl, ⟨_, .of hl⟩, fun W hW => ?_⟩
   refine qbk (K := K) (a := l) (xs := ts.map V.ref) (fun i σ' G => ∃ v0 v1, σ' = [v0, v1] /\ Same H G /\ G W = some (.lst (((os.take i).map (·.2)).map V.str))) ⟨none, none, rfl, qaf hW, qab⟩ (fun i σ' G _ ⟨_, _, _, s, _⟩ => .of (s _ _ hl)) ?_ ?_
   . rintro i x σ' G hx ⟨v0, v1, rfl, sG, hWG⟩
     obtain ⟨t, p, o, rfl, et, eo, ht, hp⟩ := ho.item hx
     refine ⟨t, _, rfl, .of (sG _ _ ht), rfl, _, _, rfl, _, _, rfl, rfl, _, rfl, _, hWG, ?_, _, _, rfl, Same.upd sG hW, ?_⟩
     . rw [List.length_map, List.length_map, List.length_take]
       exact small1000 (by omega)
     . rw [qab, List.take_add_one, eo, List.map_append, List.map_append]
       rfl
   . rintro σ' G ⟨v0, v1, rfl, sG, hWG⟩
     rw [List.length_map, ho.1, List.take_of_length_le (Nat.le_refl _)] at hWG
     have q := q G sG
     unfold bmW at q
     refine ⟨_, rfl, W, _, rfl, .inl (.of hWG), rfl, qct _, _, rfl, ?_⟩
     show if inV (.str "lost") ((os.map (·.2)).map V.str) = true then _ else _
     by_cases c : Str.ofString "lost" ∈ os.map (·.2)
     . rw [if_pos c] at q
       rw [inV_iff.mpr c]
       exact iteT q
     . rw [if_neg c] at q
       rw [show inV (.str "lost") ((os.map (·.2)).map V.str) = false from Bool.eq_false_iff.mpr fun z => c (inV_iff.mp z)]
       refine iteF ⟨_, rfl, W, _, rfl, .inl (.of hWG), rfl, qct _, _, rfl, ?_⟩
       show if inV (.str "drawn") ((os.map (·.2)).map V.str) = true then _ else _
       by_cases c2 : Str.ofString "drawn" ∈ os.map (·.2)
       . rw [if_pos c2] at q
         rw [inV_iff.mpr c2]
         exact iteT q
       . rw [if_neg c2] at q
         rw [show inV (.str "drawn") ((os.map (·.2)).map V.str) = false from Bool.eq_false_iff.mpr fun z => c2 (inV_iff.mp z)]
         exact iteF q
end
end Rh
set_option Elab.async false
set_option linter.all false
set_option maxRecDepth 100000
set_option maxHeartbeats 4000000
namespace Rh
open PySem L2 PyProof.Rows MLab Rb
def spLaw (K : PySem.W.Frag) : Sp := fun vs H Q _ => ∃ (a : Addr) (ns : List Int), vs = [.ref a] /\ SqL K H a (ns.map V.int) /\ ns.length <= 63 /\ ∀ H', Q (.bl true) H'
theorem _root_.L2.SqL.mono {K : PySem.W.Frag} {H H' : Hp} {p : Addr} {xs : List V} (h : SqL K H p xs) (s : Same H H') : SqL K H' p xs := by
 rcases h with (h | ⟨o, h⟩) | h
 . exact .inl (.inl (s _ _ h))
 . exact .inl (.inr ⟨o, s _ _ h⟩)
 . exact .inr h
theorem src_ref {n s t : Int} {k : Key} {q : Addr} : ¬ valV (src n s t) k = some (.ref q) := fun h => by
 unfold src at h
 by_cases e1 : (Sum.inr (Str.ofString "number") : Key) = k
 . rw [qay e1] at h; cases h
 . rw [qaz e1] at h
   by_cases e2 : (Sum.inr (Str.ofString "seed") : Key) = k
   . rw [qay e2] at h; cases h
   . rw [qaz e2] at h
     by_cases e3 : (Sum.inr (Str.ofString "turn") : Key) = k
     . rw [qay e3] at h; cases h
     . rw [qaz e3] at h; cases h
theorem jb_of {n jj : Int} (h0 : 0 <= n) (h : (if (if n < (8 : Int) then n else (8 : Int)) > 1 then (if n < (8 : Int) then n else (8 : Int)) else 1) = jj) : -(2 ^ 62) <= jj /\ jj < 2 ^ 62 := by
 subst h
 split <;> split <;> omega
theorem mosts {r : Int} (h0 : 0 <= r) (h1 : r < 4) : ∃ mo : Nat, atI [V.int 5, .int 7, .int 9, .int 14] r = some (.int (mo : Int)) /\ 0 < mo /\ mo <= 14 := by
 have : r = 0 ∨ r = 1 ∨ r = 2 ∨ r = 3 := by omega
 rcases this with rfl | rfl | rfl | rfl
 . exact ⟨5, rfl, by decide, by decide⟩
 . exact ⟨7, rfl, by decide, by decide⟩
 . exact ⟨9, rfl, by decide, by decide⟩
 . exact ⟨14, rfl, by decide, by decide⟩
def oD (o : (Nat × Str) × Str) : PyData := .tuple [mD o.1, .str o.2]
def dOs (os : List ((Nat × Str) × Str)) : PyData := .list (os.map oD)
theorem OsAt.tail {H : Hp} {t : Addr} {ts : List Addr} {o : (Nat × Str) × Str} {os : List ((Nat × Str) × Str)} (h : OsAt H (t :: ts) (o :: os)) : OsAt H ts os := ⟨Nat.succ.inj h.1, fun i a b e1 e2 => h.2 (i + 1) a b (by simpa using e1) (by simpa using e2)⟩
theorem DVs_os {K : PySem.W.Frag} {H : Hp} : ∀ {ts : List Addr} {os : List ((Nat × Str) × Str)}, OsAt H ts os -> DVs K H (ts.map V.ref) (os.map oD)
 | [], [], _ => .nil
 | [], _ :: _, h => by cases h.1
 | _ :: _, [], h => by cases h.1
 | t :: ts, o :: os, h => by
   obtain ⟨p, a, b⟩ := h.2 0 t o rfl rfl
   exact .cons (.tup (.of a) (.cons (DV_mv b) (.cons (.str _) .nil))) (DVs_os h.tail)
theorem out_ok (u : Rb.W) : PyData.strOk (outW u) = true := by
 cases u with
 | num n =>
   show PyData.strOk (if n = 0 then "lost" else "won") = true
   split <;> decide +kernel
 | edl b =>
   show PyData.strOk (if b.testBit 0 = true then "won" else "drawn") = true
   split <;> decide +kernel
theorem can_os : ∀ {os : List ((Nat × Str) × Str)}, (∀ o ∈ os, isName o.1.2 = true /\ PyData.strOk o.2 = true) -> PyData.canLayAll0 (os.map oD) = true
 | [], _ => rfl
 | o :: os, h => by
   rw [List.map_cons, PyData.canLayAll0, can_os fun y hy => h y (List.mem_cons_of_mem _ hy), Bool.and_true]
   obtain ⟨h1, h2⟩ := h o List.mem_cons_self
   show ((true && (PyData.strOk o.1.2 && true)) && (PyData.strOk o.2 && true)) = true
   rw [name_ok h1, h2]
   rfl
theorem dep_os : ∀ (os : List ((Nat × Str) × Str)), PyData.depthAll (os.map oD) <= 4
 | [] => by decide
 | o :: os => by
   have := dep_os os
   rw [List.map_cons]
   simp only [PyData.depthAll, PyData.depth, oD, mD]
   omega
theorem sh_os {os : List ((Nat × Str) × Str)} (h : ∀ o ∈ os, isName o.1.2 = true /\ PyData.strOk o.2 = true) : PySem.SeqAt.shaped (dOs os) = true := by
 unfold PySem.SeqAt.shaped
 rw [Bool.and_eq_true]
 refine ⟨can_os h, decide_eq_true ?_⟩
 have := dep_os os
 unfold dOs
 simp only [PyData.depth]
 omega
theorem GrAt.frS {CG : Addr} {H H' : Hp} {x d : Addr} {rs : Rws} {n s t : Int} (gr : GrAt CG H x rs) (hd : H d = some (.dK (src n s t))) (pos : 0 < rs.length) (fr : Fr H d H') : GrAt CG H' x rs := by
 have keepD : ∀ {b : Addr} {o : HO}, H b = some o -> (∀ kv, o ≠ .dK kv) -> H' b = some o := fun {b o} hb no => fr b o hb fun e => by
   rw [e, hd] at hb
   exact no _ (Option.some.inj hb).symm
 obtain ⟨dx', lo, rd, kvs, a1, a2, a3, a4⟩ := gr
 have nrd : rd ≠ d := fun e => by
   rw [e, hd] at a3
   obtain ⟨r, hr'⟩ := List.exists_mem_of_length_pos pos
   obtain ⟨q, a5, _⟩ := a4 r hr'
   rw [← (HO.dK.inj (Option.some.inj a3))] at a5
   exact src_ref a5
 exact ⟨dx', lo, rd, kvs, keepD a1 (fun _ e => nomatch e), keepD a2 (fun _ e => nomatch e), fr _ _ a3 nrd, fun r hr' => let ⟨q, b1, b2⟩ := a4 r hr'; ⟨q, b1, keepD b2 (fun _ e => nomatch e)⟩⟩
theorem WtP.frS {H H' : Hp} {D d : Addr} {F : Str -> Rb.W} {zs : List Str} {n s t : Int} (wt : WtP H D F zs) (hd : H d = some (.dK (src n s t))) (pos : 0 < zs.length) (fr : Fr H d H') : WtP H' D F zs := by
 obtain ⟨kvs, a, b, c⟩ := wt.at_
 have nD : D ≠ d := fun e => by
   rw [e, hd] at a
   obtain ⟨z, hz⟩ := List.exists_mem_of_length_pos pos
   obtain ⟨t, u, _⟩ := c z hz
   rw [← (HO.dK.inj (Option.some.inj a))] at u
   exact src_ref u
 exact ⟨kvs, fr _ _ a nD, b, fun z hz => let ⟨t, u, v⟩ := c z hz; ⟨t, u, fr _ _ v (fun e => by rw [e, hd] at v; cases v)⟩⟩
theorem SqL.frS {K : PySem.W.Frag} {H H' : Hp} {a d : Addr} {xs : List V} {n s t : Int} (h : SqL K H a xs) (hd : H d = some (.dK (src n s t))) (fr : Fr H d H') : SqL K H' a xs := by
 have keepD : ∀ {b : Addr} {o : HO}, H b = some o -> (∀ kv, o ≠ .dK kv) -> H' b = some o := fun {b o} hb no => fr b o hb fun e => by
   rw [e, hd] at hb
   exact no _ (Option.some.inj hb).symm
 rcases h with (z | ⟨o, z⟩) | z
 . exact .inl (.inl (keepD z (fun _ e => nomatch e)))
 . exact .inl (.inr ⟨o, keepD z (fun _ e => nomatch e)⟩)
 . exact .inr z
theorem lf_mv {rs : Rws} (g : GoodRows rs) {hs : List Str} (hi : ∀ z ∈ hs, ∃ r ∈ rs, r.1 = z) {b : List Str} : b ∈ mv (ldOf rs) hs ↔ ∃ m ∈ mvs rs hs hs.length, b = lf hs m := by
 rw [qbt]
 constructor
 . rintro ⟨p, x, y, q, rfl, hy, rfl⟩
   have hx : x ∈ rs.map (·.1) := by
     obtain ⟨r, hr, e⟩ := hi x (by simp)
     exact List.mem_map.mpr ⟨r, hr, e⟩
   have ez : zAt (p ++ x :: q) p.length = x := by unfold zAt; simp
   refine ⟨(p.length, y), List.mem_flatMap.mpr ⟨p.length, List.mem_range.mpr (by simp), List.mem_map.mpr ⟨y, by rw [ez]; exact (qaq g hx).mp hy, rfl⟩⟩, ?_⟩
   unfold lf
   simp
 . rintro ⟨m, hm, rfl⟩
   obtain ⟨h1, h2⟩ := mvs_mem hm
   have hz : zAt hs m.1 ∈ rs.map (·.1) := by
     obtain ⟨r, hr, e⟩ := hi _ (zAt_mem h1)
     exact List.mem_map.mpr ⟨r, hr, e⟩
   refine ⟨hs.take m.1, zAt hs m.1, m.2, hs.drop (m.1 + 1), ?_, (qaq g hz).mpr h2, ?_⟩
   . have := zAt_get h1
     obtain ⟨h3, h4⟩ := List.getElem?_eq_some_iff.mp this
     rw [← h4]
     simp
   . rw [← lf_cut h1]
     simp
theorem by_moves {rs : Rws} (g : GoodRows rs) {R : Rs Str} (all : All (gOf rs) (rs.map (·.1)) 0 [] R) {hs : List Str} (hi : ∀ z ∈ hs, ∃ r ∈ rs, r.1 = z) {z : Str}
   (k : (Lost (mv (ldOf rs)) hs /\ z = Str.ofString "lost") ∨ (Won (mv (ldOf rs)) hs /\ z = Str.ofString "won") ∨ (¬ Lost (mv (ldOf rs)) hs /\ ¬ Won (mv (ldOf rs)) hs /\ z = Str.ofString "drawn")) : z = bmW ((osOf rs R hs).map (·.2)) := by
 have L := labs (gOf_cl g.nd) all
 have nm : ∀ {b : List Str}, (∀ z ∈ b, ∃ r ∈ rs, r.1 = z) -> ∀ z ∈ b, z ∈ rs.map (·.1) := fun h z hz => let ⟨r, hr, e⟩ := h z hz; List.mem_map.mpr ⟨r, hr, e⟩
 have oi : ∀ m ∈ mvs rs hs hs.length, _ := fun m hm => out_is g L (hs := lf hs m) (nm (lf_in g hi hm))
 have wl : ∀ {w : Str}, w ∈ (osOf rs R hs).map (·.2) ↔ ∃ m ∈ mvs rs hs hs.length, outW (totW ((lf hs m).map (wT rs R))) = w := fun {w} => by
   unfold osOf
   rw [List.map_map, List.mem_map]
   exact Iff.rfl
 have d1 : ¬ (Str.ofString "won" = Str.ofString "lost") := by decide +kernel
 have d2 : ¬ (Str.ofString "drawn" = Str.ofString "lost") := by decide +kernel
 have d3 : ¬ (Str.ofString "lost" = Str.ofString "drawn") := by decide +kernel
 have d4 : ¬ (Str.ofString "won" = Str.ofString "drawn") := by decide +kernel
 have lostW : Str.ofString "lost" ∈ (osOf rs R hs).map (·.2) ↔ Won (mv (ldOf rs)) hs := by
   rw [wl]
   constructor
   . rintro ⟨m, hm, e⟩
     rcases oi m hm with ⟨l, _⟩ | ⟨_, e2⟩ | ⟨_, _, e2⟩
     . exact .mk ((lf_mv g hi).mpr ⟨m, hm, rfl⟩) l
     . exact absurd (e2.symm.trans e) d1
     . exact absurd (e2.symm.trans e) d2
   . rintro (⟨mb, l⟩)
     obtain ⟨m, hm, rfl⟩ := (lf_mv g hi).mp mb
     refine ⟨m, hm, ?_⟩
     rcases oi m hm with ⟨_, e⟩ | ⟨w, _⟩ | ⟨n, _, _⟩
     . exact e
     . exact absurd w (lost_not l)
     . exact absurd l n
 have drawnW : Str.ofString "drawn" ∈ (osOf rs R hs).map (·.2) ↔ ∃ m ∈ mvs rs hs hs.length, ¬ Lost (mv (ldOf rs)) (lf hs m) /\ ¬ Won (mv (ldOf rs)) (lf hs m) := by
   rw [wl]
   constructor
   . rintro ⟨m, hm, e⟩
     rcases oi m hm with ⟨_, e2⟩ | ⟨_, e2⟩ | ⟨n1, n2, _⟩
     . exact absurd (e2.symm.trans e) d3
     . exact absurd (e2.symm.trans e) d4
     . exact ⟨m, hm, n1, n2⟩
   . rintro ⟨m, hm, n1, n2⟩
     refine ⟨m, hm, ?_⟩
     rcases oi m hm with ⟨l, _⟩ | ⟨w, _⟩ | ⟨_, _, e⟩
     . exact absurd l n1
     . exact absurd w n2
     . exact e
 unfold bmW
 rcases k with ⟨l, e⟩ | ⟨w, e⟩ | ⟨n1, n2, e⟩
 . rw [if_neg (fun h => lost_not l (lostW.mp h)), if_neg, e]
   rintro h
   obtain ⟨m, hm, _, n⟩ := drawnW.mp h
   obtain ⟨wn⟩ := l
   exact n (wn _ ((lf_mv g hi).mpr ⟨m, hm, rfl⟩))
 . rw [if_pos (lostW.mpr w), e]
 . rw [if_neg (fun h => n2 (lostW.mp h)), if_pos, e]
   refine drawnW.mpr (Classical.byContradiction fun no => n1 (.mk fun b hb => ?_))
   obtain ⟨m, hm, rfl⟩ := (lf_mv g hi).mp hb
   rcases oi m hm with ⟨l, _⟩ | ⟨w, _⟩ | ⟨a1, a2, _⟩
   . exact absurd (.mk hb l) n2
   . exact w
   . exact absurd ⟨m, hm, a1, a2⟩ no
section
variable {P : Program} {w : World} {K : PySem.W.Frag} {mg : Str -> Option Value} {base : Heap}
abbrev nLaw : List Str := ["_law_script", "_law_k", "_law_source_here", "_law_rows_here", "_law_ground", "_law_worths_here", "_law_turn", "_law_heap_here", "_law_handed", "_law_due", "_law_lap", "_law_found"]
theorem scLaw : FnScope nLaw ["_law_script"] (defScope sLaw) := ⟨rfl, rfl, rfl, by decide +kernel, rfl, by decide +kernel, by decide +kernel⟩
structure HasL (K : PySem.W.Frag) (mg : Str -> Option Value) : Prop where
 cell : ∃ f fd, Has K mg "_law_cell_at" sCell ["_law_script", "_law_k"] f fd
 source : ∃ f fd, Has K mg "_law_source" sSource ["_law_cell"] f fd
 take : ∃ f fd, Has K mg "_law_take" sTake ["_law_source_here", "_law_many"] f fd
 names : ∃ f fd, Has K mg "_law_names" sNames ["_law_source_here", "_law_many"] f fd
 leads : ∃ f fd, Has K mg "_law_leads" sLeads pLeads f fd
 rows : ∃ f fd, Has K mg "_law_rows" sRows ["_law_source_here", "_law_most"] f fd
 need : ∃ f fd, Has K mg "need_rows" sNeed ["rows"] f fd
 heap : ∃ f fd, Has K mg "_law_heap" sLHeap nLH f fd
 gets : ∃ f fd, Has K mg "_law_gets" sLGets pLG f fd
 worths : ∃ f fd, Has K mg "_law_worths" sLWorths ["_law_rows_here"] f fd
 total : ∃ f fd, Has K mg "_law_total" sTotal ["_law_worths_here"] f fd
 lo : ∃ f fd, Has K mg "_law_outcome" sLO ["_law_worth"] f fd
 after : ∃ f fd, Has K mg "_law_after" sLAf pLAf f fd
 bm : ∃ f fd, Has K mg "_law_by_moves" sBM ["_law_due"] f fd
theorem mk_ground {H2 : Hp} {l : Addr} {ps : List Addr} {rs : Rws} {CG : Addr} {R : Hp -> Prop} (hl2 : H2 l = some (.lst (ps.map V.ref))) (rat : RowsAt H2 ps rs) (good : GoodRows rs) (pos : 0 < rs.length) (le14 : rs.length <= 14)
   {l2 : Addr} (hl2' : H2 l2 = none) {x dx : Addr} (hx : upd H2 l2 (.lst (ps.map V.ref)) x = none) (hdx : upd H2 l2 (.lst (ps.map V.ref)) dx = none) (ndx : dx ≠ x) {E : XK} (k : ∀ H4, Same H2 H4 -> GrAt CG H4 x rs -> R H4) :
   spGInit CG [.ref x, .ref l2] (upd (upd (upd H2 l2 (.lst (ps.map V.ref))) dx (.own x)) x (.ins CG dx [])) (fun v H' => v = .non /\ R H') E := by
 have hx2 : H2 x = none := by
   by_cases e : x = l2
   . rw [e, qab] at hx; cases hx
   . rw [qah e] at hx; exact hx
 have hdx2 : H2 dx = none := by
   by_cases e : dx = l2
   . rw [e, qab] at hdx; cases hdx
   . rw [qah e] at hdx; exact hdx
 have s3 : Same H2 (upd (upd (upd H2 l2 (.lst (ps.map V.ref))) dx (.own x)) x (.ins CG dx [])) := fun b u hb => by
   rw [qah (qam hb hx2), qah (qam hb hdx2), qah (qam hb hl2')]
   exact hb
 have hl3 : upd (upd (upd H2 l2 (.lst (ps.map V.ref))) dx (.own x)) x (.ins CG dx []) l2 = some (.lst (ps.map V.ref)) := by
   have n1 : l2 ≠ x := fun e => by rw [← e, qab] at hx; cases hx
   have n2 : l2 ≠ dx := fun e => by rw [← e, qab] at hdx; cases hdx
   rw [qah n1, qah n2]
   exact qab
 refine ⟨x, dx, l2, ps, rs, rfl, ⟨hl3, rat.mono s3, good, pos, le14⟩, qab, fun H4 gr fr4 => ⟨rfl, k H4 (fun b u hb => fr4 b u (s3 _ _ hb) (qam hb hx2)) gr⟩⟩
theorem ok_law {f CG : Addr} {fd : FuncData} (F : Fun K "law" "law" sLaw f fd) (h : WF K mg) (B : Blt mg) (Zk : Wk K mg) (G : KitG mg) (T : KitP K mg) (N : HasN K mg) (M : GM K mg CG) (Y : HasB K mg) (O : HasO K mg) (V1 : HasP K mg) (Z : HasL K mg) (hdi : mg "dict" = none) : FnOk P w K mg base CX0 12 f fd ["_law_script"] (spLaw K) := by
 obtain ⟨fO, fdO, hO⟩ := Z.cell
 obtain ⟨fL, fdL, hL⟩ := Z.source
 obtain ⟨fT, fdT, hT⟩ := Z.take
 obtain ⟨fN, fdN, hN⟩ := Z.names
 obtain ⟨fD, fdD, hD⟩ := Z.leads
 obtain ⟨fR, fdR, hR⟩ := Z.rows
 obtain ⟨fW, fdW, hW⟩ := Z.need
 obtain ⟨f1, fd1, h1⟩ := Z.heap
 obtain ⟨f2, fd2, h2⟩ := Z.gets
 obtain ⟨f3, fd3, h3⟩ := Z.worths
 obtain ⟨f4, fd4, h4⟩ := Z.total
 obtain ⟨f5, fd5, h5⟩ := Z.lo
 obtain ⟨f6, fd6, h6⟩ := Z.after
 obtain ⟨f7, fd7, h7⟩ := Z.bm
 obtain ⟨f8, fd8, h8⟩ := V1.oaf
 obtain ⟨f9, fd9, h9⟩ := O.outc
 obtain ⟨fI, fdI, C⟩ := M.cls
 have GO : FnOk P w K mg base CX0 1 fO fdO ["_law_script", "_law_k"] (spCell K) := ok_cell hO.fn B
 have GL : FnOk P w K mg base CX0 1 fL fdL ["_law_cell"] spSource := ok_source hL.fn B
 have GT : FnOk P w K mg base CX0 1 fT fdT ["_law_source_here", "_law_many"] spTake := ok_take hT.fn
 have GR : FnOk P w K mg base CX0 3 fR fdR ["_law_source_here", "_law_most"] spRows := ok_rows hR.fn B G hT hN hD
 have GI : FnOk P w K mg base CX0 6 fI fdI ["self", "rows"] (spGInit CG) := ok_ginit C B G T N hW
 have G1 : FnOk P w K mg base CX0 2 f1 fd1 nLH spLHeap := ok_lheap h1.fn B hT
 have G3 : FnOk P w K mg base CX0 2 f3 fd3 ["_law_rows_here"] spLWo := ok_lworths h3.fn B T hdi h2
 have G6 : FnOk P w K mg base CX0 2 f6 fd6 pLAf spLAf := ok_laf h6.fn B T hdi h4 h5
 have G7 : FnOk P w K mg base CX0 1 f7 fd7 ["_law_due"] spBM := ok_bm h7.fn
 have G8 : FnOk P w K mg base CX0 11 f8 fd8 ["ground", "heap"] (spOAf CG) := ok_oaf h8.fn h B Zk G T M Y O V1
 have G9 : FnOk P w K mg base CX0 10 f9 fd9 ["ground", "heap"] (spOutc CG) := ok_outc h9.fn h B Zk G T M Y O
 refine F.okJ scLaw (fun vs H Q E z => ?_) (fun cdv A outer s H vs Q E hr z => ?_)
 . obtain ⟨a, ns, rfl, _⟩ := z
   rfl
 . obtain ⟨a, ns, rfl, hq, hlen, k⟩ := z
   have hu := hu_of hr
   have r1 : Room 1 _ := hr.mono (by decide)
   have r2 : Room 2 _ := hr.mono (by decide)
   have r3 : Room 3 _ := hr.mono (by decide)
   have r7 : Room 7 _ := hr.mono (by decide)
   have r10 : Room 10 _ := hr.mono (by decide)
   refine ⟨_, qac (qbf PassesOwn.never rfl (qaw (by rfl) B.rng (qaa (qan (call_max2 rfl) (by rfl) B.max boot_max (qaa qag (qaa (qan (call_min2 rfl) (by rfl) B.min boot_min (qaa qag (qaa (qan qas (by rfl) B.len boot_len (qaa (jv 0) qad)) qad))) qad))) qad))
       (qaj (i := 1) scLaw.nd rfl (Or.inl rfl))
       (qac (qao (i := 2) scLaw.nd rfl (Or.inl rfl) (je_f hL GL r1 (by rfl) (qaa (je_f hO GO r1 (by rfl) (qaa (jv 0) (qaa (jv 1) qad))) qad)))
       (qac (qao (i := 3) scLaw.nd rfl (Or.inl rfl) (je_f hR GR r3 (by rfl) (qaa (jv 2) (qaa (qbs qcq (qck (qaa qag (qaa qag (qaa qag (qaa qag qad))))) (je_f hT GT r1 (by rfl) (qaa (jv 2) (qaa qag qad))) (fun _ _ => rfl)) qad))))
       (qac (qao (i := 4) scLaw.nd rfl (Or.inl rfl) (je_make C.mkr GI r7 (by rfl) C.ns C.bi .nil pass0 (qaa (qbn qcd (by rfl) G.lst boot_list (qaa (jv 3) qad)) qad)))
       (qac (qao (i := 5) scLaw.nd rfl (Or.inl rfl) (je_f h3 G3 r2 (by rfl) (qaa (jv 3) qad)))
       (qae (qbf PassesOwn.never rfl (qaw (by rfl) B.rng (qaa (qau op_add qag (je_f hT GT r1 (by rfl) (qaa (jv 2) (qaa qag qad)))) qad)) (qaj (i := 6) scLaw.nd rfl (Or.inl rfl))
         (qac (qao (i := 7) scLaw.nd rfl (Or.inl rfl) (je_f h1 G1 r2 (by rfl) (qaa (jv 2) (qaa (jv 3) (qaa qag qad)))))
         (qac (qao (i := 8) scLaw.nd rfl (Or.inl rfl) (qbn qcd (by rfl) G.lst boot_list (qaa (jv 7) qad)))
         (qac (qao (i := 9) scLaw.nd rfl (Or.inl rfl) (je_f h6 G6 r2 (by rfl) (qaa (jv 3) (qaa (jv 5) (qaa (jv 7) qad)))))
         (qac (qbf PassesOwn.never rfl (qaw (by rfl) B.rng (qaa qag qad)) (qaj (i := 10) scLaw.nd rfl (Or.inl rfl))
           (qac (qao (i := 11) scLaw.nd rfl (Or.inl rfl) (je_f h8 G8 hr (by rfl) (qaa (jv 4) (qaa (jv 8) qad))))
           (qac (qba (JW.pt (jw_or (jt_not (qbv (qan qbe (by rfl) T.isi boot_isinstance (qaa (jv 11) (qaa (qco (v := .ty "list") (by rfl) G.lst boot_list rfl) qad)))))
             (jw_or (qak (op_neD hr.units) (jv 11) (jv 9) (nomark _)) (jw_or1 (qak (op_neD hr.units) (jv 8) (jv 7) (nomark _)))))) (qae (qal qcp)) qap)
           (qac (qba (qak (op_neLN (Nat.lt_of_succ_lt hu)) (qcg (N' := ["_law_row"]) (ix := [none]) (te := tVar 0) rfl ⟨rfl, rfl, rfl, rfl, rfl⟩ (qar (jv 11)) (fun C s2 H2 fp pins =>
             ⟨qaj (i := 0) (show (["_law_row"] : List Str).Nodup by decide +kernel) rfl (Or.inl rfl), qbr (JW.pt (jw_or (jt_not (qbv (qan (r := rInst K) qbe (by rfl) T.isi boot_isinstance (qaa (jv 0) (qaa (qco (v := .ty "tuple") (by rfl) G.tup boot_tuple rfl) qad)))))
               (jw_or1 (qbv (qan (r := rInst K) qbe (by rfl) T.isi boot_isinstance (qaa (qbs (r := rIxT K) qbu (qbs (r := rIxT K) qbu (jv 0) qag (fun _ _ => rfl)) qag (fun _ _ => rfl)) (qaa (qco (v := .ty "bool") (by rfl) Zk.bool boot_bool rfl) qad))))))), jv 0⟩)) (qck qad) (nomark _)) (qae (qal qcp)) qap)
           (qae (qbp (je_bm0 PySem.F.plainAttrs_list PySem.F.slot_list_clear PySem.F.type_list_clear mt_clear (jv 11))))))))
         (qae (qba (qak op_ne (je_f h9 G9 r10 (by rfl) (qaa (jv 4) (qaa (jv 7) qad))) (je_f h7 G7 r1 (by rfl) (qaa (jv 9) qad)) (nomark _)) (qae (qal qcp)) qap)))))))))))))
     (qae (qal qcp)), ?_⟩
   refine ⟨_, rfl, a, _, rfl, .inl hq, _, _, rfl, _, _, rfl, ?_⟩
   generalize hj : (if (if ((ns.map V.int).length : Int) < (8 : Int) then ((ns.map V.int).length : Int) else (8 : Int)) > 1 then (if ((ns.map V.int).length : Int) < (8 : Int) then ((ns.map V.int).length : Int) else (8 : Int)) else 1) = jj
   have jb := jb_of (by omega) hj
   refine ⟨jj, rfl, jb.1, jb.2, ?_⟩
   refine qcc (fun i σ H' => ∃ v1 v2 v3 v4 v5 v6 v7 v8 v9 v10 v11, σ = [some (.ref a), v1, v2, v3, v4, v5, v6, v7, v8, v9, v10, v11] /\ SqL K H' a (ns.map V.int)) ⟨_, _, _, _, _, _, _, _, _, _, _, rfl, hq⟩ ?_ ?_
   . rintro i σ H' hi ⟨v1, v2, v3, v4, v5, v6, v7, v8, v9, v10, v11, rfl, hq2⟩
     refine ⟨_, rfl, _, rfl, a, ns, _, rfl, hq2, by omega, fun c => ⟨c, rfl, fun d n sd hd => ?_⟩⟩
     refine ⟨_, rfl, by show 4 <= sizeLine; decide, fun lp hlp => ?_⟩
     have ndp : lp ≠ d := fun e => by rw [e, qab] at hlp; cases hlp
     refine ⟨_, rfl, d, 4, n, sd, 0, rfl, qai qab hlp, by decide, by decide, fun r n1 t1 r0 r1' => ?_⟩
     obtain ⟨mo, em, m0, m14⟩ := mosts r0 r1'
     refine ⟨lp, _, r, _, rfl, rfl, .of (by rw [qah ndp]; exact qab), em, d, mo, n1, sd, t1, rfl, qab, m0, m14, fun l ps rs n2 t2 H2 hl hl2 rat good pos le hd2 fr2 => ?_⟩
     have hlp' : H' lp = none := by rw [qah ndp] at hlp; exact hlp
     have sm : Same H' H2 := fun b u hb => by
       have nb : b ≠ d := qam hb hd
       refine fr2 b u ?_ nb
       rw [qah nb, qah (qam hb hlp'), qah nb]
       exact hb
     have le14 : rs.length <= 14 := Nat.le_trans le m14
     refine ⟨_, rfl, l, _, rfl, .inl (.of hl2), fun l2 hl2' x dx hx hdx ndx => ?_⟩
     refine mk_ground hl2 rat good pos le14 hl2' hx hdx ndx fun H4 s4 gr => ?_
     have g4 : GoodAt H4 l ps rs := ⟨s4 _ _ hl2, rat.mono s4, good, pos, le14⟩
     refine ⟨_, rfl, l, ps, rs, rfl, g4, fun H5 D Fw s5 hD wt eqF okF => ?_⟩
     have hd5 := s5 _ _ (s4 _ _ hd2)
     have g5 := g4.mono s5
     have gr5 := gr.mono s5
     have hq5 := ((hq2.mono sm).mono s4).mono s5
     have posN : 0 < (rs.map (·.1)).length := by rw [List.length_map]; exact pos
     refine ⟨_, rfl, d, 3, n2, sd, t2, rfl, hd5, by decide, by decide, fun r2 n6 t6 r20 r21 => ⟨_, _, rfl, rfl, 1 + r2, rfl, by omega, by omega, ?_⟩⟩
     refine qcc (fun j σ G => ∃ v6 v7 v8 v9 v10 v11 n t, σ = [some (.ref a), some (.int (0 + (i : Int))), some (.ref d), some (.ref l), some (.ref x), some (.ref D), v6, v7, v8, v9, v10, v11] /\ Fr H5 d G /\ G d = some (.dK (src n sd t))) ⟨_, _, _, _, _, _, n6, t6, rfl, Fr.refl.at_d, qab⟩ ?_ ?_
     . rintro j σ G7 hj' ⟨v6, v7, v8, v9, v10, v11, n7, t7, rfl, fr7, hd7⟩
       refine ⟨_, rfl, _, rfl, d, l, 8, n7, sd, t7, ps, rs, rfl, hd7, g5.fr' hd5 fr7, by decide, fun hp hs n8 t8 H8 hh0 hh8 hl8 hin hd8 fr8 => ?_⟩
       have fr58 : Fr H5 d H8 := fr7.trans fr8
       have g8 := g5.fr' hd5 fr58
       have gr8 := gr5.frS hd5 pos fr58
       have wt8 := wt.frS hd5 posN fr58
       have nmh : ∀ z ∈ hs, isName z = true := fun z hz => isName_in good (hin z hz)
       refine ⟨_, rfl, hp, _, rfl, .inl (.of hh8), fun kp hkp => ?_⟩
       have s9 : Same H8 (upd H8 kp (.lst (hs.map V.str))) := qaf hkp
       have hk9 : upd H8 kp (.lst (hs.map V.str)) kp = some (.lst (hs.map V.str)) := qab
       generalize upd H8 kp (.lst (hs.map V.str)) = H9 at s9 hk9
       have heap9 : HeapAt H9 hp rs hs := ⟨s9 _ _ hh8, hl8, hin⟩
       have hand9 : HeapAt H9 kp rs hs := ⟨hk9, hl8, hin⟩
       refine ⟨_, rfl, _, rfl, _, rfl, l, D, hp, ps, rs, Fw, hs, rfl, g8.mono s9, wt8.mono s9, okF, heap9, fun HA Ld td sA hLd hLdA osd => ?_⟩
       have s8A := s9.trans sA
       have los : (osF rs Fw hs).length <= 112 := by
         unfold osF
         rw [List.length_map]
         have := mvs_len good le14 hin hs.length (Nat.le_refl _)
         omega
       have shO : PySem.SeqAt.shaped (dOs (osF rs Fw hs)) = true := sh_os fun o ho => by
         unfold osF at ho
         obtain ⟨m, hm, rfl⟩ := List.mem_map.mp ho
         exact ⟨mvs_name good hin m hm, out_ok _⟩
       refine ⟨2, rfl, by decide, by decide, ?_⟩
       refine qcc (fun u σ G => ∃ v10 v11, σ = [some (.ref a), some (.int (0 + (i : Int))), some (.ref d), some (.ref l), some (.ref x), some (.ref D), some (.int (0 + (j : Int))), some (.ref hp), some (.ref kp), some (.ref Ld), v10, v11] /\ Same HA G /\ (u = 0 ∨ ∃ R, All (gOf rs) (rs.map (·.1)) 0 [] R)) ⟨_, _, rfl, fun _ _ h => h, .inl rfl⟩ ?_ ?_
       . rintro u σ G hu' ⟨v10', v11', rfl, sG, _⟩
         have sAll := s8A.trans sG
         refine ⟨_, rfl, _, rfl, x, kp, rs, hs, rfl, gr8.mono sAll, good, le14, (hand9.mono sA).mono sG, fun HB Lf tf R sB hLf all hLfB osf => ?_⟩
         have eO : osF rs Fw hs = osOf rs R hs := osF_eq good hin (eqF R all)
         rw [← eO] at osf
         have sAB := sG.trans sB
         refine ⟨_, rfl, _, _, _, _, rfl, rfl, .lst hLfB, T.kll, _, rfl, iteF ?_⟩
         refine ⟨_, rfl, _, rfl, dOs (osF rs Fw hs), .lst (.of hLfB) (DVs_os osf), .lst (.of (sAB _ _ hLdA)) (DVs_os (osd.tk (.of sAB))), shO, _, rfl, iteF ?_⟩
         refine ⟨_, rfl, _, rfl, dL hs, DV_L ((hand9.mono sA).mono sAB).at_, DV_L ((heap9.mono sA).mono sAB).at_, shL nmh, _, rfl, iteF ?_⟩
         refine ⟨_, rfl, Lf, rfl, ⟨_, .of hLfB⟩, fun W hW => ?_⟩
         refine qbk (K := K) (a := Lf) (xs := tf.map V.ref) (fun m σ'' G6 => ∃ v0, σ'' = [v0] /\ Same HB G6 /\ G6 W = some (.lst [])) ⟨none, rfl, qaf hW, qab⟩ (fun m σ'' G6 _ ⟨_, _, s, _⟩ => .of (s _ _ hLfB)) ?_ ?_
         . rintro m y σ'' G6 hy ⟨v0, rfl, s6, hW6⟩
           obtain ⟨t, p, o, rfl, et, eo, ht, hpm⟩ := osf.item hy
           refine ⟨_, rfl, _, _, _, _, rfl, rfl, .tup (s6 _ _ ht), T.ktt, _, rfl, iteF ?_⟩
           refine ⟨_, rfl, t, _, 0, _, rfl, rfl, .of (s6 _ _ ht), rfl, p, _, 0, _, rfl, rfl, .of (s6 _ _ hpm), rfl, _, _, _, _, rfl, rfl, .int _, Zk.kib, _, rfl, iteF ⟨_, rfl, s6, hW6⟩⟩
         . rintro σ'' G6 ⟨v0, rfl, s6, hW6⟩
           refine ⟨by show 0 <= sizeLine; decide, fun l0 hl0 => ?_⟩
           have s7 : Same G6 (upd G6 l0 (.lst [])) := qaf hl0
           refine ⟨W, l0, _, rfl, rfl, .of (s7 _ _ hW6), .of qab, _, rfl, iteF ?_⟩
           have sB7 : Same HB (upd G6 l0 (.lst [])) := s6.trans s7
           have hLf7 := sB7 _ _ hLfB
           generalize upd G6 l0 (.lst []) = G8' at sB7 hLf7
           have hLfA : HA Lf = none := qbm sG hLf
           exact ⟨_, rfl, .inl ⟨rfl, _, .of hLf7⟩, Lf, _, rfl, rfl, hLf7, _, _, rfl, Same.upd (sAB.trans sB7) hLfA, .inr ⟨R, all⟩⟩
       . rintro σ G ⟨v10', v11', rfl, sG, hR⟩
         obtain ⟨R, all⟩ : ∃ R, All (gOf rs) (rs.map (·.1)) 0 [] R := hR.resolve_left (by decide)
         have eO : osF rs Fw hs = osOf rs R hs := osF_eq good hin (eqF R all)
         have sAll := s8A.trans sG
         refine ⟨_, rfl, _, rfl, x, hp, rs, hs, rfl, gr8.mono sAll, good, le14, (heap9.mono sA).mono sG, fun HC z sC kz => ?_⟩
         have sGC := sG.trans sC
         refine ⟨_, rfl, Ld, td, osF rs Fw hs, rfl, sGC _ _ hLdA, osd.tk (.of sGC), by omega, fun HD sD => ?_⟩
         have ez := by_moves good all hin kz
         rw [← eO] at ez
         have sF : Same H8 HD := s8A.trans (sGC.trans sD)
         exact ⟨rfl, _, rfl, qcx (by rw [ez]; simp) ⟨_, _, _, _, _, _, n8, t8, rfl, fr58.same sF, sF _ _ hd8⟩⟩
     . rintro σ G ⟨v6, v7, v8, v9, v10, v11, n7, t7, rfl, fr7, hd7⟩
       exact ⟨_, _, _, _, _, _, _, _, _, _, _, rfl, SqL.frS hq5 hd5 fr7⟩
   . rintro σ H' ⟨v1, v2, v3, v4, v5, v6, v7, v8, v9, v10, v11, rfl, hq2⟩
     exact k _
end
end Rh
set_option Elab.async false
set_option linter.all false
set_option maxRecDepth 100000
set_option maxHeartbeats 4000000
namespace Rh
open PySem L2 PyProof.Rows MLab
theorem kii {K : PySem.W.Frag} : PySem.W.kitOne K (.type "int") (.type "int") = some true := by kernel_rfl
theorem kib {K : PySem.W.Frag} : PySem.W.kitOne K (.type "int") (.type "bool") = some false := by kernel_rfl
theorem kss {K : PySem.W.Frag} : PySem.W.kitOne K (.type "str") (.type "str") = some true := by kernel_rfl
theorem ktt {K : PySem.W.Frag} : PySem.W.kitOne K (.type "tuple") (.type "tuple") = some true := by kernel_rfl
theorem kll {K : PySem.W.Frag} : PySem.W.kitOne K (.type "list") (.type "list") = some true := by kernel_rfl
section
variable {K : PySem.W.Frag}
def MF (K : PySem.W.Frag) (n q : Str) (s : Stmt) (f : Addr) : Prop := ∃ fd, Fun K n q s f fd
theorem MF.mk' {x qual : Str} {st : Stmt} {f : Addr} {oc : Value} {od an : Option Addr} {osl : Array (Option Value)} {kV doc pm cdv ct : Value} (l : K.lookup f = some ⟨oc, od, .func (PySem.W.fnOf x qual (defArgs st) (defBody st) (defScope st) .none kV doc pm an cdv ct), osl⟩) (c : PySem.W.codeIn K cdv qual = true) (k : PySem.W.keepIn K (.ref f) = true) : MF K x qual st f := ⟨_, fun_mk l c k⟩
def HF (K : PySem.W.Frag) (n : Str) (s : Stmt) (f : Addr) : Prop := PySem.W.nsIn K mainGlobals n = some (some (.ref f)) /\ MF K n n s f
theorem HF.mk' {x : Str} {st : Stmt} {f : Addr} {oc : Value} {od an : Option Addr} {osl : Array (Option Value)} {kV doc pm cdv ct : Value} (a : PySem.W.nsIn K mainGlobals x = some (some (.ref f))) (l : K.lookup f = some ⟨oc, od, .func (PySem.W.fnOf x x (defArgs st) (defBody st) (defScope st) .none kV doc pm an cdv ct), osl⟩) (c : PySem.W.codeIn K cdv x = true) (k : PySem.W.keepIn K (.ref f) = true) : HF K x st f := ⟨a, _, fun_mk l c k⟩
theorem HF.has {h : Heap} {mg : Str -> Option Value} {n : Str} {s : Stmt} {f : Addr} {ps : List Str} (l : HF K n s f) (X : K.In h) (G : h.Ns mainGlobals mg) (b : ∀ {fd}, Fun K n n s f fd -> Binds K fd ps []) : ∃ fd, Has K mg n s ps f fd := let ⟨a, fd, F⟩ := l; ⟨fd, F, PySem.W.mg_of X G a, b F⟩
end
theorem all_mk {l : PySem.W.OpenLaw} {w : World} {K : PySem.W.Frag} {h : Heap} {mg : Str -> Option Value} {fa : Addr} (X : K.In h) (G : h.Ns mainGlobals mg) (hfa : mg "law" = some (.ref fa))
   {fO fL fT fN fD fR fA1 fA2 fA3 fA4 fA5 fA6 fA7 fA8 fB1 fB2 fB3 fB4 fB5 fB6 fB7 fB8 fW1 fW2 fW3 fW4 fW5 fW6 fP1 fP2 fP3 fP4 fP5 fP6 fQ1 fQ2 fQ3 fQ4 fQ5 fC1 fC2 fC3 fC4 fC5 fC6 fC7 fCGi fCGM fCGF fCNi fCNO fCNP fCNE fCEi fCEO fCEP fCEE : Addr}
   {fLAW : Addr} {odLAW anLAW : Option Addr} {slLAW : Array (Option Value)} {ocLAW kVLAW dcLAW pmLAW cdLAW ctLAW : Value}
   {CG : Addr}
   {CN : Addr}
   {CE : Addr}
   {t1 t2 t3 t4 t5 t6 t7 : Tok}
   (lO : HF K "_law_cell_at" sCell fO)
   (lL : HF K "_law_source" sSource fL)
   (lT : HF K "_law_take" sTake fT)
   (lN : HF K "_law_names" sNames fN)
   (lD : HF K "_law_leads" sLeads fD)
   (lR : HF K "_law_rows" sRows fR)
   (lA1 : HF K "is_name" sName fA1)
   (lA2 : HF K "is_tuple_of_names" sTupN fA2)
   (lA3 : HF K "is_row" sIsRow fA3)
   (lA4 : HF K "need_form" sForm fA4)
   (lA5 : HF K "need_own_names" sOwn fA5)
   (lA6 : HF K "need_ends" sEnds fA6)
   (lA7 : HF K "need_few_roads" sFew fA7)
   (lA8 : HF K "need_rows" sNeed fA8)
   (lB1 : HF K "lacking" sLacking fB1)
   (lB2 : HF K "set_of" sSetOf fB2)
   (lB3 : HF K "numbers_behind" sNB fB3)
   (lB4 : HF K "gets_number" sGets fB4)
   (lB5 : HF K "round_of" sRound fB5)
   (lB6 : HF K "give_number" sGive fB6)
   (lB7 : HF K "give_numbers" sGives fB7)
   (lB8 : HF K "labels_of" sLabels fB8)
   (lW1 : HF K "is_whole" sWhole fW1)
   (lW2 : HF K "is_number" sNumber fW2)
   (lW3 : HF K "is_set" sIsSet fW3)
   (lW4 : HF K "set_turned" sTurned fW4)
   (lW5 : HF K "numbers_in" sNumIn fW5)
   (lW6 : HF K "sum_of" sSumOf fW6)
   (lP1 : HF K "need_place" sPlace fP1)
   (lP2 : HF K "need_heap" sNHeap fP2)
   (lP3 : HF K "label_worth" sLW fP3)
   (lP4 : HF K "worth_by" sWBy fP4)
   (lP5 : HF K "heap_worth" sHW fP5)
   (lP6 : HF K "outcome" sOutc fP6)
   (lQ1 : HF K "moves_of" sMovesOf fQ1)
   (lQ2 : HF K "left_by" sLeft fQ2)
   (lQ3 : HF K "outcome_by" sOBy fQ3)
   (lQ4 : HF K "outcomes_by" sOsBy fQ4)
   (lQ5 : HF K "outcomes_after" sOAf fQ5)
   (lC1 : HF K "_law_heap" sLHeap fC1)
   (lC2 : HF K "_law_gets" sLGets fC2)
   (lC3 : HF K "_law_worths" sLWorths fC3)
   (lC4 : HF K "_law_total" sTotal fC4)
   (lC5 : HF K "_law_outcome" sLO fC5)
   (lC6 : HF K "_law_after" sLAf fC6)
   (lC7 : HF K "_law_by_moves" sBM fC7)
   (aLAW : PySem.W.nsIn K mainGlobals "law" = some (some (.ref fLAW)))
   (lLAW : K.lookup fLAW = some ⟨ocLAW, odLAW, .func (PySem.W.fnOf "law" "law" (defArgs sLaw) (defBody sLaw) (defScope sLaw) .none kVLAW dcLAW pmLAW anLAW cdLAW ctLAW), slLAW⟩)
   (cLAW : PySem.W.codeIn K cdLAW "law" = true)
   (kLAW : PySem.W.keepIn K (.ref fLAW) = true)
   (nCG : PySem.W.nsIn K mainGlobals "Ground" = some (some (.ref CG)))
   (pgCG : PySem.W.plainGet K CG Str.empty = true)
   (hdCG : PySem.W.hasDictIn K CG = true)
   (poCG : PySem.W.plainOver K CG = true)
   (saCG : PySem.W.findIn K (.ref CG) "__setattr__" = some (some (.builtin "object.__setattr__")))
   (mkCG : PySem.W.makesIn K CG = true)
   (inCG : PySem.W.findIn K (.ref CG) "__init__" = some (some (.ref fCGi)))
   (fiCG : PySem.W.isFn K (.ref fCGi) = true)
   (kcCG : PySem.W.keepIn K (.ref CG) = true)
   (noCG : PySem.W.findIn K (.ref CG) "order" = some none)
   (nrCG : PySem.W.findIn K (.ref CG) "roads" = some none)
   (lCGi : MF K "__init__" "Ground.__init__" sGInit fCGi)
   (atCGM : PySem.W.findIn K (.ref CG) "names" = some (some (.ref fCGM)))
   (fnCGM : PySem.W.isFn K (.ref fCGM) = true)
   (lCGM : MF K "names" "Ground.names" sGNames fCGM)
   (atCGF : PySem.W.findIn K (.ref CG) "roads_from" = some (some (.ref fCGF)))
   (fnCGF : PySem.W.isFn K (.ref fCGF) = true)
   (lCGF : MF K "roads_from" "Ground.roads_from" sGFrom fCGF)
   (nCN : PySem.W.nsIn K mainGlobals "Numbered" = some (some (.ref CN)))
   (pgCN : PySem.W.plainGet K CN Str.empty = true)
   (hdCN : PySem.W.hasDictIn K CN = true)
   (poCN : PySem.W.plainOver K CN = true)
   (saCN : PySem.W.findIn K (.ref CN) "__setattr__" = some (some (.builtin "object.__setattr__")))
   (mkCN : PySem.W.makesIn K CN = true)
   (inCN : PySem.W.findIn K (.ref CN) "__init__" = some (some (.ref fCNi)))
   (fiCN : PySem.W.isFn K (.ref fCNi) = true)
   (kcCN : PySem.W.keepIn K (.ref CN) = true)
   (naCN : PySem.W.findIn K (.ref CN) "number" = some none)
   (lCNi : MF K "__init__" "Numbered.__init__" sNInit fCNi)
   (caCN : PySem.W.findIn K (.ref CN) "__class__" = some (some (.builtin "object.__class__")))
   (obCN : PySem.W.mroIn K CN (.type "object") = some true)
   (atCNO : PySem.W.findIn K (.ref CN) "outcome" = some (some (.ref fCNO)))
   (fnCNO : PySem.W.isFn K (.ref fCNO) = true)
   (lCNO : MF K "outcome" "Numbered.outcome" sNOut fCNO)
   (atCNP : PySem.W.findIn K (.ref CN) "plus" = some (some (.ref fCNP)))
   (fnCNP : PySem.W.isFn K (.ref fCNP) = true)
   (lCNP : MF K "plus" "Numbered.plus" sNPlus fCNP)
   (atCNE : PySem.W.findIn K (.ref CN) "is_endless" = some (some (.ref fCNE)))
   (fnCNE : PySem.W.isFn K (.ref fCNE) = true)
   (lCNE : MF K "is_endless" "Numbered.is_endless" sNEnd fCNE)
   (nCE : PySem.W.nsIn K mainGlobals "Endless" = some (some (.ref CE)))
   (pgCE : PySem.W.plainGet K CE Str.empty = true)
   (hdCE : PySem.W.hasDictIn K CE = true)
   (poCE : PySem.W.plainOver K CE = true)
   (saCE : PySem.W.findIn K (.ref CE) "__setattr__" = some (some (.builtin "object.__setattr__")))
   (mkCE : PySem.W.makesIn K CE = true)
   (inCE : PySem.W.findIn K (.ref CE) "__init__" = some (some (.ref fCEi)))
   (fiCE : PySem.W.isFn K (.ref fCEi) = true)
   (kcCE : PySem.W.keepIn K (.ref CE) = true)
   (naCE : PySem.W.findIn K (.ref CE) "bits" = some none)
   (lCEi : MF K "__init__" "Endless.__init__" sEInit fCEi)
   (caCE : PySem.W.findIn K (.ref CE) "__class__" = some (some (.builtin "object.__class__")))
   (obCE : PySem.W.mroIn K CE (.type "object") = some true)
   (atCEO : PySem.W.findIn K (.ref CE) "outcome" = some (some (.ref fCEO)))
   (fnCEO : PySem.W.isFn K (.ref fCEO) = true)
   (lCEO : MF K "outcome" "Endless.outcome" sEOut fCEO)
   (atCEP : PySem.W.findIn K (.ref CE) "plus" = some (some (.ref fCEP)))
   (fnCEP : PySem.W.isFn K (.ref fCEP) = true)
   (lCEP : MF K "plus" "Endless.plus" sEPlus fCEP)
   (atCEE : PySem.W.findIn K (.ref CE) "is_endless" = some (some (.ref fCEE)))
   (fnCEE : PySem.W.isFn K (.ref fCEE) = true)
   (lCEE : MF K "is_endless" "Endless.is_endless" sEEnd fCEE)
   (zlen : PySem.W.nsIn K mainGlobals "len" = some none)
   (zmax : PySem.W.nsIn K mainGlobals "max" = some none)
   (zmin : PySem.W.nsIn K mainGlobals "min" = some none)
   (zint : PySem.W.nsIn K mainGlobals "int" = some none)
   (zrange : PySem.W.nsIn K mainGlobals "range" = some none)
   (zisinstance : PySem.W.nsIn K mainGlobals "isinstance" = some none)
   (zstr : PySem.W.nsIn K mainGlobals "str" = some none)
   (zall : PySem.W.nsIn K mainGlobals "all" = some none)
   (zenumerate : PySem.W.nsIn K mainGlobals "enumerate" = some none)
   (zsum : PySem.W.nsIn K mainGlobals "sum" = some none)
   (zsorted : PySem.W.nsIn K mainGlobals "sorted" = some none)
   (zlist : PySem.W.nsIn K mainGlobals "list" = some none)
   (zreversed : PySem.W.nsIn K mainGlobals "reversed" = some none)
   (zset : PySem.W.nsIn K mainGlobals "set" = some none)
   (ztuple : PySem.W.nsIn K mainGlobals "tuple" = some none)
   (zdict : PySem.W.nsIn K mainGlobals "dict" = some none)
   (zbool : PySem.W.nsIn K mainGlobals "bool" = some none)
   (m1 : PySem.W.nsIn K mainGlobals "LETTERS" = some (some (.str "abcdefghijklmnopqrstuvwxyz" t1)))
   (m2 : PySem.W.nsIn K mainGlobals "LONGEST_NAME" = some (some (.int 8 t2)))
   (m3 : PySem.W.nsIn K mainGlobals "MOST_PLACES" = some (some (.int 14 t3)))
   (m4 : PySem.W.nsIn K mainGlobals "MOST_ROADS" = some (some (.int 40 t4)))
   (m5 : PySem.W.nsIn K mainGlobals "MOST_NUMBER" = some (some (.int 15 t5)))
   (m6 : PySem.W.nsIn K mainGlobals "MOST_BITS" = some (some (.int 65535 t6)))
   (m7 : PySem.W.nsIn K mainGlobals "MOST_TOKENS" = some (some (.int 8 t7)))
   (ne : CN ≠ CE)
   :
   ∃ fd : FuncData, (∀ (s : Shared) (v : Value), BindsTo s fd ⟨[v], []⟩ [("_law_script", v)]) /\ ∀ base : Heap, K.In base -> base.Ns mainGlobals mg -> FnOk l.prog w K mg base CX0 12 fa fd ["_law_script"] (spLaw K) := by
 have e := hfa.symm.trans (PySem.W.mg_of X G aLAW)
 cases e
 have B : Blt mg := ⟨PySem.W.mg_none_of X G zlen, PySem.W.mg_none_of X G zmax, PySem.W.mg_none_of X G zmin, PySem.W.mg_none_of X G zint, PySem.W.mg_none_of X G zrange⟩
 have Gk : KitG mg := ⟨PySem.W.mg_none_of X G zsorted, PySem.W.mg_none_of X G zlist, PySem.W.mg_none_of X G zreversed, PySem.W.mg_none_of X G zset, PySem.W.mg_none_of X G ztuple⟩
 have T : KitP K mg := ⟨PySem.W.mg_none_of X G zisinstance, PySem.W.mg_none_of X G zstr, PySem.W.mg_none_of X G zall, PySem.W.mg_none_of X G zenumerate, PySem.W.mg_none_of X G zsum, ⟨_, PySem.W.mg_of X G m1⟩, ⟨_, PySem.W.mg_of X G m2⟩, ⟨_, PySem.W.mg_of X G m3⟩, ⟨_, PySem.W.mg_of X G m4⟩, kss, ktt, kll⟩
 obtain ⟨_, hO⟩ := lO.has (ps := ["_law_script", "_law_k"]) X G fun F => F.binds fun _ _ _ _ _ _ us hl => by obtain ⟨_, _, rfl⟩ := len2 hl; rfl
 obtain ⟨_, hL⟩ := lL.has (ps := ["_law_cell"]) X G fun F => F.binds fun _ _ _ _ _ _ us hl => by obtain ⟨_, rfl⟩ := len1 hl; rfl
 obtain ⟨_, hT⟩ := lT.has (ps := ["_law_source_here", "_law_many"]) X G fun F => F.binds fun _ _ _ _ _ _ us hl => by obtain ⟨_, _, rfl⟩ := len2 hl; rfl
 obtain ⟨_, hN⟩ := lN.has (ps := ["_law_source_here", "_law_many"]) X G fun F => F.binds fun _ _ _ _ _ _ us hl => by obtain ⟨_, _, rfl⟩ := len2 hl; rfl
 obtain ⟨_, hD⟩ := lD.has (ps := ["_law_source_here", "_law_many", "_law_shape", "_law_low"]) X G fun F => F.binds fun _ _ _ _ _ _ us hl => by obtain ⟨_, _, _, _, rfl⟩ := len4 hl; rfl
 obtain ⟨_, hR⟩ := lR.has (ps := ["_law_source_here", "_law_most"]) X G fun F => F.binds fun _ _ _ _ _ _ us hl => by obtain ⟨_, _, rfl⟩ := len2 hl; rfl
 obtain ⟨_, hA1⟩ := lA1.has (ps := ["thing"]) X G fun F => F.binds fun _ _ _ _ _ _ us hl => by obtain ⟨_, rfl⟩ := len1 hl; rfl
 obtain ⟨_, hA2⟩ := lA2.has (ps := ["thing"]) X G fun F => F.binds fun _ _ _ _ _ _ us hl => by obtain ⟨_, rfl⟩ := len1 hl; rfl
 obtain ⟨_, hA3⟩ := lA3.has (ps := ["thing"]) X G fun F => F.binds fun _ _ _ _ _ _ us hl => by obtain ⟨_, rfl⟩ := len1 hl; rfl
 obtain ⟨_, hA4⟩ := lA4.has (ps := ["rows"]) X G fun F => F.binds fun _ _ _ _ _ _ us hl => by obtain ⟨_, rfl⟩ := len1 hl; rfl
 obtain ⟨_, hA5⟩ := lA5.has (ps := ["order"]) X G fun F => F.binds fun _ _ _ _ _ _ us hl => by obtain ⟨_, rfl⟩ := len1 hl; rfl
 obtain ⟨_, hA6⟩ := lA6.has (ps := ["ends", "order"]) X G fun F => F.binds fun _ _ _ _ _ _ us hl => by obtain ⟨_, _, rfl⟩ := len2 hl; rfl
 obtain ⟨_, hA7⟩ := lA7.has (ps := ["rows"]) X G fun F => F.binds fun _ _ _ _ _ _ us hl => by obtain ⟨_, rfl⟩ := len1 hl; rfl
 obtain ⟨_, hA8⟩ := lA8.has (ps := ["rows"]) X G fun F => F.binds fun _ _ _ _ _ _ us hl => by obtain ⟨_, rfl⟩ := len1 hl; rfl
 obtain ⟨_, hB1⟩ := lB1.has (ps := ["numbers"]) X G fun F => F.binds fun _ _ _ _ _ _ us hl => by obtain ⟨_, rfl⟩ := len1 hl; rfl
 obtain ⟨_, hB2⟩ := lB2.has (ps := ["numbers"]) X G fun F => F.binds fun _ _ _ _ _ _ us hl => by obtain ⟨_, rfl⟩ := len1 hl; rfl
 obtain ⟨_, hB3⟩ := lB3.has (ps := ["ground", "numbered", "name"]) X G fun F => F.binds fun _ _ _ _ _ _ us hl => by obtain ⟨_, _, _, rfl⟩ := len3 hl; rfl
 obtain ⟨_, hB4⟩ := lB4.has (ps := ["ground", "numbered", "name", "number"]) X G fun F => F.binds fun _ _ _ _ _ _ us hl => by obtain ⟨_, _, _, _, rfl⟩ := len4 hl; rfl
 obtain ⟨_, hB5⟩ := lB5.has (ps := ["ground", "numbered", "number"]) X G fun F => F.binds fun _ _ _ _ _ _ us hl => by obtain ⟨_, _, _, rfl⟩ := len3 hl; rfl
 obtain ⟨_, hB6⟩ := lB6.has (ps := ["ground", "numbered", "number"]) X G fun F => F.binds fun _ _ _ _ _ _ us hl => by obtain ⟨_, _, _, rfl⟩ := len3 hl; rfl
 obtain ⟨_, hB7⟩ := lB7.has (ps := ["ground", "numbered"]) X G fun F => F.binds fun _ _ _ _ _ _ us hl => by obtain ⟨_, _, rfl⟩ := len2 hl; rfl
 obtain ⟨_, hB8⟩ := lB8.has (ps := ["ground"]) X G fun F => F.binds fun _ _ _ _ _ _ us hl => by obtain ⟨_, rfl⟩ := len1 hl; rfl
 obtain ⟨_, hW1⟩ := lW1.has (ps := ["thing"]) X G fun F => F.binds fun _ _ _ _ _ _ us hl => by obtain ⟨_, rfl⟩ := len1 hl; rfl
 obtain ⟨_, hW2⟩ := lW2.has (ps := ["thing"]) X G fun F => F.binds fun _ _ _ _ _ _ us hl => by obtain ⟨_, rfl⟩ := len1 hl; rfl
 obtain ⟨_, hW3⟩ := lW3.has (ps := ["thing"]) X G fun F => F.binds fun _ _ _ _ _ _ us hl => by obtain ⟨_, rfl⟩ := len1 hl; rfl
 obtain ⟨_, hW4⟩ := lW4.has (ps := ["bits", "number"]) X G fun F => F.binds fun _ _ _ _ _ _ us hl => by obtain ⟨_, _, rfl⟩ := len2 hl; rfl
 obtain ⟨_, hW5⟩ := lW5.has (ps := ["bits"]) X G fun F => F.binds fun _ _ _ _ _ _ us hl => by obtain ⟨_, rfl⟩ := len1 hl; rfl
 obtain ⟨_, hW6⟩ := lW6.has (ps := ["worths"]) X G fun F => F.binds fun _ _ _ _ _ _ us hl => by obtain ⟨_, rfl⟩ := len1 hl; rfl
 obtain ⟨_, hP1⟩ := lP1.has (ps := ["ground", "thing"]) X G fun F => F.binds fun _ _ _ _ _ _ us hl => by obtain ⟨_, _, rfl⟩ := len2 hl; rfl
 obtain ⟨_, hP2⟩ := lP2.has (ps := ["ground", "heap"]) X G fun F => F.binds fun _ _ _ _ _ _ us hl => by obtain ⟨_, _, rfl⟩ := len2 hl; rfl
 obtain ⟨_, hP3⟩ := lP3.has (ps := ["label"]) X G fun F => F.binds fun _ _ _ _ _ _ us hl => by obtain ⟨_, rfl⟩ := len1 hl; rfl
 obtain ⟨_, hP4⟩ := lP4.has (ps := ["labels", "heap"]) X G fun F => F.binds fun _ _ _ _ _ _ us hl => by obtain ⟨_, _, rfl⟩ := len2 hl; rfl
 obtain ⟨_, hP5⟩ := lP5.has (ps := ["ground", "heap"]) X G fun F => F.binds fun _ _ _ _ _ _ us hl => by obtain ⟨_, _, rfl⟩ := len2 hl; rfl
 obtain ⟨_, hP6⟩ := lP6.has (ps := ["ground", "heap"]) X G fun F => F.binds fun _ _ _ _ _ _ us hl => by obtain ⟨_, _, rfl⟩ := len2 hl; rfl
 obtain ⟨_, hQ1⟩ := lQ1.has (ps := ["ground", "heap"]) X G fun F => F.binds fun _ _ _ _ _ _ us hl => by obtain ⟨_, _, rfl⟩ := len2 hl; rfl
 obtain ⟨_, hQ2⟩ := lQ2.has (ps := ["heap", "move"]) X G fun F => F.binds fun _ _ _ _ _ _ us hl => by obtain ⟨_, _, rfl⟩ := len2 hl; rfl
 obtain ⟨_, hQ3⟩ := lQ3.has (ps := ["labels", "heap"]) X G fun F => F.binds fun _ _ _ _ _ _ us hl => by obtain ⟨_, _, rfl⟩ := len2 hl; rfl
 obtain ⟨_, hQ4⟩ := lQ4.has (ps := ["ground", "labels", "heap"]) X G fun F => F.binds fun _ _ _ _ _ _ us hl => by obtain ⟨_, _, _, rfl⟩ := len3 hl; rfl
 obtain ⟨_, hQ5⟩ := lQ5.has (ps := ["ground", "heap"]) X G fun F => F.binds fun _ _ _ _ _ _ us hl => by obtain ⟨_, _, rfl⟩ := len2 hl; rfl
 obtain ⟨_, hC1⟩ := lC1.has (ps := ["_law_source_here", "_law_rows_here", "_law_most"]) X G fun F => F.binds fun _ _ _ _ _ _ us hl => by obtain ⟨_, _, _, rfl⟩ := len3 hl; rfl
 obtain ⟨_, hC2⟩ := lC2.has (ps := ["_law_leads_here", "_law_numbers", "_law_name", "_law_number"]) X G fun F => F.binds fun _ _ _ _ _ _ us hl => by obtain ⟨_, _, _, _, rfl⟩ := len4 hl; rfl
 obtain ⟨_, hC3⟩ := lC3.has (ps := ["_law_rows_here"]) X G fun F => F.binds fun _ _ _ _ _ _ us hl => by obtain ⟨_, rfl⟩ := len1 hl; rfl
 obtain ⟨_, hC4⟩ := lC4.has (ps := ["_law_worths_here"]) X G fun F => F.binds fun _ _ _ _ _ _ us hl => by obtain ⟨_, rfl⟩ := len1 hl; rfl
 obtain ⟨_, hC5⟩ := lC5.has (ps := ["_law_worth"]) X G fun F => F.binds fun _ _ _ _ _ _ us hl => by obtain ⟨_, rfl⟩ := len1 hl; rfl
 obtain ⟨_, hC6⟩ := lC6.has (ps := ["_law_rows_here", "_law_worths_here", "_law_heap_here"]) X G fun F => F.binds fun _ _ _ _ _ _ us hl => by obtain ⟨_, _, _, rfl⟩ := len3 hl; rfl
 obtain ⟨_, hC7⟩ := lC7.has (ps := ["_law_due"]) X G fun F => F.binds fun _ _ _ _ _ _ us hl => by obtain ⟨_, rfl⟩ := len1 hl; rfl
 have FLAW := fun_mk (st := sLaw) lLAW cLAW kLAW
 obtain ⟨_, FiCG⟩ := lCGi
 have clCG : ClG K mg CG fCGi _ := ⟨⟨pgCG, hdCG, poCG, saCG⟩, ⟨mkCG, inCG, fiCG, kcCG⟩, PySem.W.mg_of X G nCG, noCG, nrCG, FiCG, FiCG.binds (ps := ["self", "rows"]) fun _ _ _ _ _ _ us hl => by obtain ⟨_, _, rfl⟩ := len2 hl; rfl⟩
 obtain ⟨_, FCGM⟩ := lCGM
 have mCGM : Mth K CG "names" "Ground.names" sGNames ["self"] fCGM _ := ⟨FCGM, ⟨atCGM, fnCGM, FCGM.kp⟩, FCGM.binds (ps := ["self"]) fun _ _ _ _ _ _ us hl => by obtain ⟨_, rfl⟩ := len1 hl; rfl⟩
 obtain ⟨_, FCGF⟩ := lCGF
 have mCGF : Mth K CG "roads_from" "Ground.roads_from" sGFrom ["self", "name"] fCGF _ := ⟨FCGF, ⟨atCGF, fnCGF, FCGF.kp⟩, FCGF.binds (ps := ["self", "name"]) fun _ _ _ _ _ _ us hl => by obtain ⟨_, _, rfl⟩ := len2 hl; rfl⟩
 have Nn : HasN K mg := ⟨⟨_, _, hA1⟩, ⟨_, _, hA2⟩, ⟨_, _, hA3⟩, ⟨_, _, hA4⟩, ⟨_, _, hA5⟩, ⟨_, _, hA6⟩, ⟨_, _, hA7⟩⟩
 have M : GM K mg CG := ⟨⟨_, _, clCG⟩, ⟨_, _, mCGM⟩, ⟨_, _, mCGF⟩, ⟨_, _, hA1⟩⟩
 have Y : HasB K mg := ⟨⟨_, _, hB1⟩, ⟨_, _, hB2⟩, ⟨_, _, hB3⟩, ⟨_, _, hB4⟩, ⟨_, _, hB5⟩, ⟨_, _, hB6⟩, ⟨_, _, hB7⟩, ⟨_, _, hB8⟩⟩
 obtain ⟨_, FiCN⟩ := lCNi
 have clCN : Cl K mg "Numbered" "Numbered.__init__" "number" sNInit CN fCNi _ := ⟨⟨pgCN, hdCN, poCN, saCN⟩, ⟨mkCN, inCN, fiCN, kcCN⟩, PySem.W.mg_of X G nCN, naCN, FiCN, FiCN.binds (ps := ["self", "number"]) fun _ _ _ _ _ _ us hl => by obtain ⟨_, _, rfl⟩ := len2 hl; rfl, caCN, obCN⟩
 obtain ⟨_, FCNO⟩ := lCNO
 have mCNO : Mth K CN "outcome" "Numbered.outcome" sNOut ["self"] fCNO _ := ⟨FCNO, ⟨atCNO, fnCNO, FCNO.kp⟩, FCNO.binds (ps := ["self"]) fun _ _ _ _ _ _ us hl => by obtain ⟨_, rfl⟩ := len1 hl; rfl⟩
 obtain ⟨_, FCNP⟩ := lCNP
 have mCNP : Mth K CN "plus" "Numbered.plus" sNPlus ["self", "other"] fCNP _ := ⟨FCNP, ⟨atCNP, fnCNP, FCNP.kp⟩, FCNP.binds (ps := ["self", "other"]) fun _ _ _ _ _ _ us hl => by obtain ⟨_, _, rfl⟩ := len2 hl; rfl⟩
 obtain ⟨_, FCNE⟩ := lCNE
 have mCNE : Mth K CN "is_endless" "Numbered.is_endless" sNEnd ["self"] fCNE _ := ⟨FCNE, ⟨atCNE, fnCNE, FCNE.kp⟩, FCNE.binds (ps := ["self"]) fun _ _ _ _ _ _ us hl => by obtain ⟨_, rfl⟩ := len1 hl; rfl⟩
 obtain ⟨_, FiCE⟩ := lCEi
 have clCE : Cl K mg "Endless" "Endless.__init__" "bits" sEInit CE fCEi _ := ⟨⟨pgCE, hdCE, poCE, saCE⟩, ⟨mkCE, inCE, fiCE, kcCE⟩, PySem.W.mg_of X G nCE, naCE, FiCE, FiCE.binds (ps := ["self", "bits"]) fun _ _ _ _ _ _ us hl => by obtain ⟨_, _, rfl⟩ := len2 hl; rfl, caCE, obCE⟩
 obtain ⟨_, FCEO⟩ := lCEO
 have mCEO : Mth K CE "outcome" "Endless.outcome" sEOut ["self"] fCEO _ := ⟨FCEO, ⟨atCEO, fnCEO, FCEO.kp⟩, FCEO.binds (ps := ["self"]) fun _ _ _ _ _ _ us hl => by obtain ⟨_, rfl⟩ := len1 hl; rfl⟩
 obtain ⟨_, FCEP⟩ := lCEP
 have mCEP : Mth K CE "plus" "Endless.plus" sEPlus ["self", "other"] fCEP _ := ⟨FCEP, ⟨atCEP, fnCEP, FCEP.kp⟩, FCEP.binds (ps := ["self", "other"]) fun _ _ _ _ _ _ us hl => by obtain ⟨_, _, rfl⟩ := len2 hl; rfl⟩
 obtain ⟨_, FCEE⟩ := lCEE
 have mCEE : Mth K CE "is_endless" "Endless.is_endless" sEEnd ["self"] fCEE _ := ⟨FCEE, ⟨atCEE, fnCEE, FCEE.kp⟩, FCEE.binds (ps := ["self"]) fun _ _ _ _ _ _ us hl => by obtain ⟨_, rfl⟩ := len1 hl; rfl⟩
 have Wq : Wk K mg := ⟨PySem.W.mg_none_of X G zisinstance, PySem.W.mg_none_of X G zbool, kii, kib, ⟨_, PySem.W.mg_of X G m5⟩, ⟨_, PySem.W.mg_of X G m6⟩⟩
 let wf : WF K mg := ⟨CN, CE, fCNi, fCEi, fCNO, fCEO, fCNP, fCEP, fCNE, fCEE, fW1, fW2, fW3, fW4, fW5, fB2, _, _, _, _, _, _, _, _, _, _, _, _, _, _, ne, clCN, clCE, mCNO, mCEO, mCNP, mCEP, mCNE, mCEE, hW1, hW2, hW3, hW4, hW5, hB2⟩
 have O : HasO K mg := ⟨⟨_, _, hP1⟩, ⟨_, _, hP2⟩, ⟨_, _, hP3⟩, ⟨_, _, hW6⟩, ⟨_, _, hP4⟩, ⟨_, _, hP5⟩, ⟨_, _, hP6⟩, ⟨_, PySem.W.mg_of X G m7⟩⟩
 have V1 : HasP K mg := ⟨⟨_, _, hQ1⟩, ⟨_, _, hQ2⟩, ⟨_, _, hQ3⟩, ⟨_, _, hQ4⟩, ⟨_, _, hQ5⟩⟩
 have Z : HasL K mg := ⟨⟨_, _, hO⟩, ⟨_, _, hL⟩, ⟨_, _, hT⟩, ⟨_, _, hN⟩, ⟨_, _, hD⟩, ⟨_, _, hR⟩, ⟨_, _, hA8⟩, ⟨_, _, hC1⟩, ⟨_, _, hC2⟩, ⟨_, _, hC3⟩, ⟨_, _, hC4⟩, ⟨_, _, hC5⟩, ⟨_, _, hC6⟩, ⟨_, _, hC7⟩⟩
 exact ⟨PySem.W.fnOf "law" "law" (defArgs sLaw) (defBody sLaw) (defScope sLaw) .none kVLAW dcLAW pmLAW anLAW cdLAW ctLAW, fun s v => .of_eq rfl, fun base _ _ => ok_law FLAW wf B Wq Gk T Nn M Y O V1 Z (PySem.W.mg_none_of X G zdict)⟩
theorem walk {l : PySem.W.OpenLaw} {q : Program} {loose : List Str} {XP : (Str -> Option Value) -> Heap -> Prop} {YP : World -> Heap -> Prop} {d : DefRec} {K : Params -> PySem.W.Frag} (hn : l.most = some 63) (hdf : d.params.defaults = [])
   (hY : ∀ (w : World) (h : Heap), YP w h -> (K w.params).In h)
   (F : ∀ (w : World) (mg : Str -> Option Value) (fa : Addr) (h : Heap), (K w.params).In h -> h.Ns mainGlobals mg -> mg d.name = some (.ref fa) →
     ∃ fd : FuncData, (∀ (s : Shared) (u : Value), BindsTo s fd ⟨[u], []⟩ [("_law_script", u)]) /\ ∀ base : Heap, (K w.params).In base -> base.Ns mainGlobals mg -> FnOk l.prog w (K w.params) mg base CX0 12 fa fd ["_law_script"] (spLaw (K w.params))) :
   PySem.W.WalkO q loose XP YP l.row.toRowW d [] (fun f vs => PySem.call f vs) :=
 L2.walk_of (n := 63) (k := 12) (x := "_law_script") (CX := fun _ => CX0) (sp := fun w => spLaw (K w.params)) hn (by decide) hdf ⟨rfl, by decide, by decide, rfl⟩ hY F (fun _ _ a ns hl _ hS => ⟨a, ns, rfl, hS, hl, fun _ => rfl⟩) fun _ _ _ _ _ z => z
end Rh
open PySem PySem.W PyProof.Rows
def PySem.W.Fast.tw17018565012595457095 : Unit := ()
def PySem.W.Fast.tw889181279034092453 : Unit := ()
def PySem.W.Fast.tw861502493610598483 : Unit := ()
def PySem.W.Fast.tw13622848540026110595 : Unit := ()
def PySem.W.Fast.tw18430476961869974472 : Unit := ()
def PySem.W.Fast.tw2323540548168759778 : Unit := ()
def PySem.W.Fast.tw8917917961894373751 : Unit := ()
def PySem.W.Fast.tw7774113678449685934 : Unit := ()
def PySem.W.Fast.tw14967168558501476229 : Unit := ()
def PySem.W.Fast.tw12509177155966099375 : Unit := ()
def PySem.W.Fast.tw14678943786356421948 : Unit := ()
def PySem.W.Fast.tw14769054280063640981 : Unit := ()
def PySem.W.Fast.tw206458477050631689 : Unit := ()
def PySem.W.Fast.tw9285211346045004284 : Unit := ()
def PySem.W.Fast.tw15087498900868403761 : Unit := ()
def PySem.W.Fast.tw17941610651245897021 : Unit := ()
def PySem.W.Fast.tw9388713150524257201 : Unit := ()
def PySem.W.Fast.tw17980500129456985241 : Unit := ()
def PySem.W.Fast.tw12528533614272120300 : Unit := ()
def PySem.W.Fast.tw14575388751658381831 : Unit := ()
def PySem.W.Fast.tw16721508838639397229 : Unit := ()
def PySem.W.Fast.tw8454940587590390560 : Unit := ()
def PySem.W.Fast.tw12176265147828701554 : Unit := ()
def PySem.W.Fast.tw12550775161083096063 : Unit := ()
def PySem.W.Fast.tw12549542988036985293 : Unit := ()
def PySem.W.Fast.tw18367749455379333440 : Unit := ()
def PySem.W.Fast.tw2466311954974566718 : Unit := ()
def PySem.W.Fast.tw3671519592330383864 : Unit := ()
def PySem.W.Fast.tw15433366417846715934 : Unit := ()
def PySem.W.Fast.tw5323960799030618294 : Unit := ()
def PySem.W.Fast.tw8966131664815694762 : Unit := ()
def PySem.W.Fast.tw15990004616052873044 : Unit := ()
def PySem.W.Fast.tw9104974531708491489 : Unit := ()
def PySem.W.Fast.tw16520785806668781166 : Unit := ()
def PySem.W.Fast.tw14849461344987154502 : Unit := ()
def PySem.W.Fast.tw6798380500665416597 : Unit := ()
def PySem.W.Fast.tw16766484511958638138 : Unit := ()
def PySem.W.Fast.tw13813548295540068894 : Unit := ()
def PySem.W.Fast.tw8212203176049278890 : Unit := ()
def PySem.W.Fast.tw5431711821321733379 : Unit := ()
def PySem.W.Fast.tw17382457898008728272 : Unit := ()
def PySem.W.Fast.tw16108870410212019532 : Unit := ()
def PySem.W.Fast.tw694261584828832409 : Unit := ()
def PySem.W.Fast.tw17397653436517662659 : Unit := ()
def PySem.W.Fast.tw12717557048674177747 : Unit := ()
def PySem.W.Fast.tw10199421320940215857 : Unit := ()
def PySem.W.Fast.tw13367274342830030513 : Unit := ()
def PySem.W.Fast.tw14932756227218503593 : Unit := ()
def PySem.W.Fast.tw15214748959534726111 : Unit := ()
def PySem.W.Fast.tw87601786513091389 : Unit := ()
def PySem.W.Fast.tw10888863842102328177 : Unit := ()
def PySem.W.Fast.tw6046103115902281144 : Unit := ()
def PySem.W.Fast.tw14454166528178196959 : Unit := ()
def PySem.W.Fast.tw6248682570935725439 : Unit := ()
def PySem.W.Fast.tw4946147512530127568 : Unit := ()
def PySem.W.Fast.tw14538725608371270373 : Unit := ()
def PySem.W.Fast.tw1351852979975943594 : Unit := ()
def PySem.W.Fast.tw15895094517606616290 : Unit := ()
def PySem.W.Fast.tw2827255003249426055 : Unit := ()
def PySem.W.Fast.tw7933485763601977624 : Unit := ()
def PySem.W.Fast.tw14022695629967993375 : Unit := ()
def PySem.W.Fast.tw4684226298888400098 : Unit := ()
def PySem.W.Fast.tw866717566613908145 : Unit := ()
def PySem.W.Fast.tw6858818405166986180 : Unit := ()
def PySem.W.Fast.tw9689729476882780088 : Unit := ()
def PySem.W.Fast.tw12431713363859531893 : Unit := ()
def PySem.W.Fast.tw4548300405975405348 : Unit := ()
def PySem.W.Fast.tw514280064592716601 : Unit := ()
def PySem.W.Fast.tw16607193741793207195 : Unit := ()
def PySem.W.Fast.tw17338325484393633139 : Unit := ()
def PySem.W.Fast.tw10510056951384868246 : Unit := ()
def PySem.W.Fast.tw11066385474520676512 : Unit := ()
def PySem.W.Fast.tw11373181179767321252 : Unit := ()
def PySem.W.Fast.tw5634867526602368427 : Unit := ()
def PySem.W.Fast.tw14560624547652848805 : Unit := ()
def PySem.W.Fast.tw6607644564249050058 : Unit := ()
def PySem.W.Fast.tw16626521671886133394 : Unit := ()
def PySem.W.Fast.tw16955839230299176341 : Unit := ()
def PySem.W.Fast.tw7478123994339007903 : Unit := ()
def PySem.W.Fast.tw6216382948874008006 : Unit := ()
def PySem.W.Fast.tw14061609134260724683 : Unit := ()
def PySem.W.Fast.tw12747814925858328940 : Unit := ()
def PySem.W.Fast.tw15166322114958858414 : Unit := ()
def PySem.W.Fast.tw12003660372656728261 : Unit := ()
def PySem.W.Fast.tw4683681711962371626 : Unit := ()
def PySem.W.Fast.tw1717767836212652739 : Unit := ()
def PySem.W.Fast.tw17267597263503486738 : Unit := ()
def PySem.W.Fast.tw12297992134047619483 : Unit := ()
def PySem.W.Fast.tw15235614512728720 : Unit := ()
def PySem.W.Fast.tw14387916025512776202 : Unit := ()
def PySem.W.Fast.tw17187875760726034783 : Unit := ()
def PySem.W.Fast.tw13953587524928339648 : Unit := ()
def PySem.W.Fast.tw7091221385724896812 : Unit := ()
def PySem.W.Fast.tw561727478393794602 : Unit := ()
def PySem.W.Fast.tw14564479935002850509 : Unit := ()
def PySem.W.Fast.tw17435391645217708394 : Unit := ()
def PySem.W.Fast.tw11907897558876765624 : Unit := ()
def PySem.W.Fast.tw16864618592142003386 : Unit := ()
def PySem.W.Fast.tw15831126876759372255 : Unit := ()
def PySem.W.Fast.tw4884199854448574 : Unit := ()
def PySem.W.Fast.tw2595618661548880785 : Unit := ()
def PySem.W.Fast.tw1607123104830579860 : Unit := ()
def PySem.W.Fast.tw16120054744476736488 : Unit := ()
def PySem.W.Fast.tw5285915839522022235 : Unit := ()
def PySem.W.Fast.tw10698057553749749337 : Unit := ()
def PySem.W.Fast.tw539538531456391632 : Unit := ()
def PySem.W.Fast.tw13444670453868202053 : Unit := ()
def PySem.W.Fast.tw13674586047789940208 : Unit := ()
def PySem.W.Fast.tw10295913840692754127 : Unit := ()
def PySem.W.Fast.tw4804111812005502284 : Unit := ()
def PySem.W.Fast.tw6542358382571353910 : Unit := ()
def PySem.W.Fast.tw12269216009862288129 : Unit := ()
def PySem.W.Fast.tw14577027041581768965 : Unit := ()
def PySem.W.Fast.tw8737599933303070863 : Unit := ()
def PySem.W.Fast.tw9331231397406362311 : Unit := ()
def PySem.W.Fast.tw10826640976665885199 : Unit := ()
def PySem.W.Fast.tw8565224436197482051 : Unit := ()
def PySem.W.Fast.tw6327569006664949090 : Unit := ()
def PySem.W.Fast.tw7046044490832178742 : Unit := ()
def PySem.W.Fast.tw14859695947638507448 : Unit := ()
def PySem.W.Fast.tw384561282630992784 : Unit := ()
def PySem.W.Fast.tw2576523973992343609 : Unit := ()
def PySem.W.Fast.tw13946496683202179788 : Unit := ()
def PySem.W.Fast.tw5000232492035539693 : Unit := ()
def PySem.W.Fast.tw5404398260228975080 : Unit := ()
def PySem.W.Fast.tw9387514328989991554 : Unit := ()
def PySem.W.Fast.tw4607425872040536859 : Unit := ()
def PySem.W.Fast.tw1915925776726481438 : Unit := ()
def PySem.W.Fast.tw13861969467909019144 : Unit := ()
def PySem.W.Fast.tw11033627544408312984 : Unit := ()
def PySem.W.Fast.tw5467331546851215429 : Unit := ()
def PySem.W.Fast.tw11481637867367846703 : Unit := ()
def PySem.W.Fast.tw14727194681476072466 : Unit := ()
def PySem.W.Fast.tw4903002758410956813 : Unit := ()
def PySem.W.Fast.tw4561898282857576226 : Unit := ()
def PySem.W.Fast.tw1825952489489211193 : Unit := ()
def PySem.W.Fast.tw28018229315631829 : Unit := ()
def PySem.W.Fast.tw4906484309439969231 : Unit := ()
def PySem.W.Fast.tw17659185236578331656 : Unit := ()
def PySem.W.Fast.tw15541240446876304647 : Unit := ()
def PySem.W.Fast.tw5622701340561072331 : Unit := ()
def PySem.W.Fast.tw6060609690816243450 : Unit := ()
def PySem.W.Fast.tw1719895430356276633 : Unit := ()
def PySem.W.Fast.tw16003985067176294414 : Unit := ()
def PySem.W.Fast.tw896878414759379649 : Unit := ()
def PySem.W.Fast.tw8422229294311615681 : Unit := ()
def PySem.W.Fast.tw16493865465440409018 : Unit := ()
def PySem.W.Fast.tw18101783494082082527 : Unit := ()
def PySem.W.Fast.tw11662115353561507501 : Unit := ()
def PySem.W.Fast.tw10879749546641988924 : Unit := ()
def PySem.W.Fast.tw4849480874435393781 : Unit := ()
def PySem.W.Fast.tw12652081859355081885 : Unit := ()
def PySem.W.Fast.tw2358075552688931204 : Unit := ()
def PySem.W.Fast.tw14782954611325821827 : Unit := ()
def PySem.W.Fast.tw15142666989864626641 : Unit := ()
def PySem.W.Fast.tw6408400580700104982 : Unit := ()
def PySem.W.Fast.tw5274481202262711730 : Unit := ()
def PySem.W.Fast.tw772564365185477556 : Unit := ()
def PySem.W.Fast.tw5002640475654186023 : Unit := ()
def PySem.W.Fast.tw12459912946257978736 : Unit := ()
def PySem.W.Fast.tw6056707288978253535 : Unit := ()
def PySem.W.Fast.tw16654469307462801742 : Unit := ()
def PySem.W.Fast.tw7000281897963312321 : Unit := ()
def PySem.W.Fast.tw615563214671542189 : Unit := ()
def PySem.W.Fast.tw8431482922422412695 : Unit := ()
def PySem.W.Fast.tw13394580363473044415 : Unit := ()
def PySem.W.Fast.tw3075201292733833056 : Unit := ()
def PySem.W.Fast.tw13547939009206843870 : Unit := ()
set_option maxRecDepth 100000
set_option maxHeartbeats 0
open_top hd for PySem.Challenge.rw_ringheaps_k52_outcomes_that_moves_leave
set_option maxRecDepth 100000 in
set_option maxHeartbeats 0 in
theorem PySem.Challenge.cw_ringheaps_k52_outcomes_that_moves_leave_holds : PySem.Challenge.rw_ringheaps_k52_outcomes_that_moves_leave.Holds := by
 refine hd ?_
 k_fill
 refine Rh.walk (l := PySem.Challenge.rw_ringheaps_k52_outcomes_that_moves_leave) rfl rfl (fun w h Y => PySem.W.kIn_of Y) ?F
 case F =>
   intro w mg fa h KX G hmg
   refine' Rh.all_mk KX G hmg ?_ ?_ ?_ ?_ ?_ ?_ ?_ ?_ ?_ ?_ ?_ ?_ ?_ ?_ ?_ ?_ ?_ ?_ ?_ ?_ ?_ ?_ ?_ ?_ ?_ ?_ ?_ ?_ ?_ ?_ ?_ ?_ ?_ ?_ ?_ ?_ ?_ ?_ ?_ ?_ ?_ ?_ ?_ ?_ ?_ ?_ ?_ ?_ ?_ ?_ ?_ ?_ ?_ ?_ ?_ ?_ ?_ ?_ ?_ ?_ ?_ ?_ ?_ ?_ ?_ ?_ ?_ ?_ ?_ ?_ ?_ ?_ ?_ ?_ ?_ ?_ ?_ ?_ ?_ ?_ ?_ ?_ ?_ ?_ ?_ ?_ ?_ ?_ ?_ ?_ ?_ ?_ ?_ ?_ ?_ ?_ ?_ ?_ ?_ ?_ ?_ ?_ ?_ ?_ ?_ ?_ ?_ ?_ ?_ ?_ ?_ ?_ ?_ ?_ ?_ ?_ ?_ ?_ ?_ ?_ ?_ ?_ ?_ ?_ ?_ ?_ ?_ ?_ ?_ ?_ ?_ ?_ ?_ ?_ ?_ ?_ ?_
   any_goals first | (apply Rh.HF.mk' <;> k_is) | (apply Rh.MF.mk' <;> k_is) | k_is | kernel_rfl | decide
