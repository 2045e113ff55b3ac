import PyProof.Rows.All
import Wide.All
import OpenK.AllK
import Wide.FinOn
import Lean
import PyProof.EqAt
import PyProof.EqKinds
import PyProof.TupleCall
import PySem.Challenge.RW_ringheaps_k86_rings
set_option Elab.async false
set_option linter.all false
set_option maxRecDepth 100000
namespace L2
open PySem PySem.Spec PyProof.Rows
abbrev Key := Sum Int Str
def keyIs : Key → Value → Bool
  | .inl k, v => Value.isInt k v
  | .inr x, v => Value.isStrOf x v
def keyH (w : World) : Key → Int
  | .inl k => hashInt k
  | .inr x => hashStr w x
theorem keyIs_shape : ∀ {k : Key} {v : Value}, keyIs k v = true → (∃ i t, k = Sum.inl i ∧ v = Value.int i t) ∨ (∃ x t, k = Sum.inr x ∧ v = Value.str x t)
  | .inl i, v, h => by
    obtain ⟨t, e⟩ := Value.isInt_shape (k := i) (v := v) h
    exact .inl ⟨i, t, rfl, e⟩
  | .inr x, v, h => by
    obtain ⟨t, e⟩ := Value.isStrOf_shape (x := x) (v := v) h
    exact .inr ⟨x, t, rfl, e⟩
theorem keyIs_int (i : Int) (t : Tok) : keyIs (.inl i) (.int i t) = true := by simp [keyIs, Value.isInt]
theorem keyIs_str (x : Str) (t : Tok) : keyIs (.inr x) (.str x t) = true := by simp [keyIs, Value.isStrOf]
theorem key_ll (a b : Int) : decide ((Sum.inl a : Key) = Sum.inl b) = (a == b) := by
  by_cases e : a = b
  · subst e; simp
  · have h : ¬ (Sum.inl a : Key) = Sum.inl b := fun q => e (Sum.inl.inj q)
    rw [decide_eq_false h]
    exact (beq_eq_false_iff_ne.mpr e).symm
theorem key_rr (a b : Str) : decide ((Sum.inr a : Key) = Sum.inr b) = decide (a = b) := by
  by_cases e : a = b
  · subst e; simp
  · have h : ¬ (Sum.inr a : Key) = Sum.inr b := fun q => e (Sum.inr.inj q)
    rw [decide_eq_false h, decide_eq_false e]
theorem key_lr (a : Int) (b : Str) : decide ((Sum.inl a : Key) = Sum.inr b) = false := decide_eq_false (fun q => nomatch q)
theorem key_rl (a : Str) (b : Int) : decide ((Sum.inr a : Key) = Sum.inl b) = false := decide_eq_false (fun q => nomatch q)
def mixKind (prog : Program) (w : World) : PySem.KeyKind prog w Key where
  is := keyIs
  hash := keyH w
  inj := fun v a b ha hb => by
    rcases keyIs_shape ha with ⟨i, t, rfl, rfl⟩ | ⟨x, t, rfl, rfl⟩
    · rcases keyIs_shape hb with ⟨j, u, rfl, e⟩ | ⟨y, u, rfl, e⟩
      · injection e with e1 _; rw [e1]
      · exact nomatch e
    · rcases keyIs_shape hb with ⟨j, u, rfl, e⟩ | ⟨y, u, rfl, e⟩
      · exact nomatch e
      · injection e with e1 _; rw [e1]
  byValue := fun k v h => by
    rcases keyIs_shape h with ⟨i, t, rfl, rfl⟩ | ⟨x, t, rfl, rfl⟩ <;> rfl
  pyHash := fun hv h => by
    rcases keyIs_shape hv with ⟨i, t, rfl, rfl⟩ | ⟨x, t, rfl, rfl⟩
    · exact wpAny_pyHash_int h
    · exact wpAny_pyHash_str h
  eqBool := fun hu hv h => by
    rcases keyIs_shape hu with ⟨i, t, rfl, rfl⟩ | ⟨x, t, rfl, rfl⟩
    · rcases keyIs_shape hv with ⟨j, u, rfl, rfl⟩ | ⟨y, u, rfl, rfl⟩
      · rw [key_ll] at h; exact wpAny_eqBool_int h
      · rw [key_lr] at h; exact SeqAt.EqAt.int_str i t y u _ _ _ _ h
    · rcases keyIs_shape hv with ⟨j, u, rfl, rfl⟩ | ⟨y, u, rfl, rfl⟩
      · rw [key_rl] at h; exact SeqAt.EqAt.str_int x t j u _ _ _ _ h
      · rw [key_rr] at h; exact wpAny_eqBool_str h
  «strs» := fun k x t v h => by
    rcases keyIs_shape h with ⟨i, u, rfl, e⟩ | ⟨y, u, rfl, e⟩
    · exact nomatch e
    · injection e with e1 _
      subst e1
      cases v <;> rfl
theorem mixKind_int (prog : Program) (w : World) (i : Int) (t : Tok) : (mixKind prog w).is (.inl i) (.int i t) = true := keyIs_int i t
theorem mixKind_str (prog : Program) (w : World) (x : Str) (t : Tok) : (mixKind prog w).is (.inr x) (.str x t) = true := keyIs_str x t
end L2
namespace L2
open PySem PySem.Spec PyProof.Rows
inductive V where
  | non | bl (b : Bool) | int (i : Int) | str (x : Str) | byt (b : Array UInt8) | flt (b : UInt64) | ref (a : Addr) | ty (n : String)
  deriving DecidableEq
def RelV : V → Value → Prop
  | .non, u => u = Value.none
  | .bl b, u => u = Value.bool b
  | .int i, u => ∃ t, u = Value.int i t
  | .str x, u => ∃ t, u = Value.str x t
  | .byt b, u => ∃ t, u = Value.bytes b t
  | .flt b, u => ∃ t, u = Value.float b t
  | .ref a, u => u = Value.ref a
  | .ty n, u => u = Value.type n
abbrev Vals : List V → List Value → Prop := Paired RelV
theorem Vals.length {xs : List V} {us : List Value} (r : Vals xs us) : xs.length = us.length := Paired.length r
theorem Vals.get : ∀ {xs : List V} {us : List Value} {i : Nat} {x : V}, Vals xs us → xs[i]? = some x → ∃ u, us[i]? = some u ∧ RelV x u
  | _, _, _, _, .nil, e => by simp at e
  | _, _, 0, _, .cons r _, e => by simp at e; subst e; exact ⟨_, rfl, r⟩
  | _, _, i + 1, x, .cons _ t, e => by
    obtain ⟨u, h1, h2⟩ := Vals.get (i := i) (x := x) t (by simpa using e)
    exact ⟨u, by simpa using h1, h2⟩
theorem Vals.set {x : V} {u : Value} (r : RelV x u) : ∀ {xs : List V} {us : List Value} (i : Nat), Vals xs us → Vals (xs.set i x) (us.set i u)
  | _, _, _, .nil => .nil
  | _, _, 0, .cons _ t => .cons r t
  | _, _, i + 1, .cons q t => .cons q (Vals.set r i t)
theorem Vals.append : ∀ {xs ys : List V} {us ws : List Value}, Vals xs us → Vals ys ws → Vals (xs ++ ys) (us ++ ws)
  | _, _, _, _, .nil, s => s
  | _, _, _, _, .cons r t, s => .cons r (Vals.append t s)
theorem Vals.take : ∀ {xs : List V} {us : List Value} (n : Nat), Vals xs us → Vals (xs.take n) (us.take n)
  | _, _, 0, _ => .nil
  | _, _, _ + 1, .nil => .nil
  | _, _, n + 1, .cons r t => .cons r (Vals.take n t)
theorem Vals.drop : ∀ {xs : List V} {us : List Value} (n : Nat), Vals xs us → Vals (xs.drop n) (us.drop n)
  | _, _, 0, r => r
  | _, _, _ + 1, .nil => .nil
  | _, _, n + 1, .cons _ t => Vals.drop n t
theorem Vals.none_of : ∀ {xs : List V} {us : List Value} {i : Nat}, Vals xs us → xs[i]? = none → us[i]? = none := fun {xs us i} r e => by
  have h1 := r.length
  have h2 : xs.length ≤ i := List.getElem?_eq_none_iff.mp e
  exact List.getElem?_eq_none_iff.mpr (by omega)
def RelO : Option V → Option Value → Prop
  | some v, some u => RelV v u
  | none, none => True
  | _, _ => False
def KV {κ : Type} : List (κ × V) → List (κ × Value) → Prop := Paired fun (p : κ × V) (q : κ × Value) => p.1 = q.1 ∧ RelV p.2 q.2
def kV : Key → V
  | .inl i => .int i
  | .inr x => .str x
inductive HO where
  | lst (xs : List V)
  | tup (xs : List V)
  | dK (kvs : List (Key × V)) | dT (kvs : List (List Key × V))
  | set (S : Int → Bool) (n : Nat)
  | ins (C dx : Addr) (fs : List (Str × V))
  | own (x : Addr)
  | xd (fs : List (Str × V))
  | met (f x : Addr)
  | rng (lo hi : Int)
  | frz (o : Obj) (u : HO)
  | tbl (ps : Array Value)
  | ext (φ : Heap → Prop)
abbrev Hp := Addr → Option HO
def upd (H : Hp) (a : Addr) (o : HO) : Hp := fun b => if b = a then some o else H b
theorem upd_same {H : Hp} {a : Addr} {o : HO} : upd H a o a = some o := by unfold upd; rw [if_pos rfl]
theorem upd_ne {H : Hp} {a b : Addr} {o : HO} (h : b ≠ a) : upd H a o b = H b := by unfold upd; rw [if_neg h]
theorem upd_upd {H : Hp} {a : Addr} {o u : HO} : upd (upd H a o) a u = upd H a u := by
  funext b; unfold upd; split <;> rfl
theorem ne_of {H : Hp} {a b : Addr} {o u : HO} (h : H a = some o) (h' : H b = some u) (d : o ≠ u) : a ≠ b := by
  intro e; subst e; rw [h] at h'; exact d (Option.some.inj h')
theorem ne_of_none {H : Hp} {a b : Addr} {o : HO} (h : H a = some o) (h' : H b = none) : a ≠ b := by
  intro e; subst e; rw [h] at h'; cases h'
section
variable (P : Program) (w : World)
def ObjOk (H : Hp) (h : Heap) (a : Addr) : HO → Prop
  | .lst xs => xs.length ≤ sizeLine ∧ ∃ (its : List Value) (n : Nat), Vals xs its ∧ h.get? a = some { cls := .type "list", data := .seq its.toArray n }
  | .tup xs => xs.length ≤ sizeLine ∧ ∃ its : List Value, Vals xs its ∧ IsTup h a its.toArray
  | .dK kvs => kvs.length ≤ sizeLine ∧ (a == sysModules) = false ∧ ∃ vs, KV kvs vs ∧ h.DictOf (mixKind P w) a vs
  | .dT kvs => kvs.length ≤ sizeLine ∧ (a == sysModules) = false ∧ ∃ xs : List (List Key × Addr × Value),
      Paired (fun (p : List Key × V) (q : List Key × Addr × Value) => p.1 = q.1 ∧ H q.2.1 = some (.tup (p.1.map kV)) ∧ RelV p.2 q.2.2) kvs xs ∧
      ∃ o es ep, h.get? a = some o ∧ o.ExactDict ∧ o.data = .dict es ep ∧ es.toList = xs.map (entryOfKey (tupleKind (mixKind P w))) ∧ (xs.map (·.1)).Nodup
  | .set S n => h.SetOf (intKind P w) a S n
  | .ins C dx fs => H dx = some (.own a) ∧ fs.length ≤ 1000 ∧ dx ≠ a ∧ h.get? a = some (PySem.W.instObj C dx) ∧
      ∃ mA, h.Ns1 dx mA ∧ (∀ f, RelO (fs.lookup f) (mA f)) ∧ PySem.Within mA (fs.map (·.1))
  | .own _ => ∃ o, h.get? a = some o
  | .xd fs => ∃ mA, h.Ns1 a mA ∧ ∀ f, RelO (fs.lookup f) (mA f)
  | .rng lo hi => ∃ t u v, h.get? a = some { cls := .type "range", data := .fields #[.int lo t, .int hi u, .int 1 v] }
  | .frz o u => h.get? a = some o ∧ ObjOk H h a u
  | .tbl ps => h.get? a = some { cls := .none, data := .fields ps }
  | .met f x => h.get? a = some (PySem.W.methodObj (.ref f) (.ref x))
  | .ext φ => φ h ∧ (∃ o, h.get? a = some o) ∧ ∀ h1 h2 : Heap, φ h1 → (∀ o, h1.get? a = some o → h2.get? a = some o) → φ h2
def HOk (H : Hp) (h : Heap) : Prop := ∀ a o, H a = some o → ObjOk P w H h a o
end
section
variable {P : Program} {w : World} {H H' : Hp} {h h' : Heap} {a : Addr} {o : HO}
theorem ObjOk.lt (x : ObjOk P w H h a o) : a < h.objs.size := by
  cases o with
  | lst xs => obtain ⟨_, _, _, _, e⟩ := x; exact Heap.lt_size e
  | tup xs => obtain ⟨_, _, _, p⟩ := x; exact p.lt
  | dK kvs => obtain ⟨_, _, _, _, o, _, _, e, _⟩ := x; exact Heap.lt_size e
  | dT kvs => obtain ⟨_, _, _, _, o, _, _, e, _⟩ := x; exact Heap.lt_size e
  | set S n => obtain ⟨o, _, _, _, e, _⟩ := x; exact Heap.lt_size e
  | ins C dx fs => obtain ⟨_, _, _, e, _⟩ := x; exact Heap.lt_size e
  | own y => obtain ⟨_, e⟩ := x; exact Heap.lt_size e
  | xd fs => obtain ⟨_, ⟨_, _, _, e, _⟩, _⟩ := x; exact Heap.lt_size e
  | rng lo hi => obtain ⟨_, _, _, e⟩ := x; exact Heap.lt_size e
  | frz ob u => obtain ⟨e, _⟩ := x; exact Heap.lt_size e
  | tbl ps => exact Heap.lt_size (show h.get? a = some _ from x)
  | met f y => exact Heap.lt_size (show h.get? a = some _ from x)
  | ext φ => obtain ⟨_, ⟨_, e⟩, _⟩ := x; exact Heap.lt_size e
theorem Paired.mapP {α β : Type} {F G : α → β → Prop} : ∀ {l₁ : List α} {l₂ : List β}, Paired F l₁ l₂ → (∀ a b, F a b → G a b) → Paired G l₁ l₂
  | _, _, .nil, _ => .nil
  | _, _, .cons r t, f => .cons (f _ _ r) (Paired.mapP t f)
theorem ObjOk.stay (x : ObjOk P w H h a o) (k : ∀ b u, (b = a ∨ H b = some (.own a)) → h.get? b = some u → h'.get? b = some u)
    (ho : ∀ b, H b = some (.own a) → H' b = some (.own a)) (ht : ∀ b xs, H b = some (.tup xs) → H' b = some (.tup xs)) : ObjOk P w H' h' a o := by
  induction o with
  | lst xs => obtain ⟨z, its, n, r, e⟩ := x; exact ⟨z, its, n, r, k _ _ (.inl rfl) e⟩
  | tup xs => obtain ⟨z, its, r, ob, e, c⟩ := x; exact ⟨z, its, r, ob, k _ _ (.inl rfl) e, c⟩
  | dK kvs => obtain ⟨z, y, vs, r, ob, es, ep, e, c⟩ := x; exact ⟨z, y, vs, r, ob, es, ep, k _ _ (.inl rfl) e, c⟩
  | dT kvs =>
    obtain ⟨z, y, xs, r, ob, es, ep, e, c⟩ := x
    exact ⟨z, y, xs, Paired.mapP r fun p q z => ⟨z.1, ht _ _ z.2.1, z.2.2⟩, ob, es, ep, k _ _ (.inl rfl) e, c⟩
  | set S n => obtain ⟨ob, es, ep, t, e, c⟩ := x; exact ⟨ob, es, ep, t, k _ _ (.inl rfl) e, c⟩
  | ins C dx fs =>
    obtain ⟨d, z, ne, e, mA, ⟨od, es, ep, e2, c⟩, r⟩ := x
    exact ⟨ho _ d, z, ne, k _ _ (.inl rfl) e, mA, ⟨od, es, ep, k _ _ (.inr d) e2, c⟩, r⟩
  | own y => obtain ⟨ob, e⟩ := x; exact ⟨ob, k _ _ (.inl rfl) e⟩
  | xd fs => obtain ⟨mA, ⟨od, es, ep, e, c⟩, r⟩ := x; exact ⟨mA, ⟨od, es, ep, k _ _ (.inl rfl) e, c⟩, r⟩
  | rng lo hi => obtain ⟨t, u, v, e⟩ := x; exact ⟨t, u, v, k _ _ (.inl rfl) e⟩
  | frz ob u ih => obtain ⟨e, q⟩ := x; exact ⟨k _ _ (.inl rfl) e, ih q⟩
  | tbl ps =>
    have e : h.get? a = some { cls := .none, data := .fields ps } := x
    show h'.get? a = some { cls := .none, data := .fields ps }
    exact k a _ (.inl rfl) e
  | met f y =>
    have e : h.get? a = some (PySem.W.methodObj (.ref f) (.ref y)) := x
    show h'.get? a = some (PySem.W.methodObj (.ref f) (.ref y))
    exact k a _ (.inl rfl) e
  | ext φ => obtain ⟨p, ⟨o, e⟩, st⟩ := x; exact ⟨st _ _ p fun o q => k _ _ (.inl rfl) q, ⟨o, k _ _ (.inl rfl) e⟩, st⟩
theorem HOk.lt (x : HOk P w H h) (e : H a = some o) : a < h.objs.size := (x a o e).lt
theorem HOk.fresh (x : HOk P w H h) (e : h.objs.size ≤ a) : H a = none := by
  cases q : H a with
  | none => rfl
  | some u => exact absurd (Nat.lt_of_lt_of_le (x.lt q) e) (Nat.lt_irrefl _)
theorem HOk.kept (x : HOk P w H h) (k : ∀ b u, h.get? b = some u → h'.get? b = some u) : HOk P w H h' := fun a o e =>
  (x a o e).stay (fun b u _ q => k b u q) (fun _ q => q) fun _ _ q => q
theorem HOk.laid (x : HOk P w H h) (k : ∀ b u, h.get? b = some u → h'.get? b = some u) (hp : h.objs.size ≤ a) (new : ObjOk P w (upd H a o) h' a o) : HOk P w (upd H a o) h' := fun b u e => by
  have hn := x.fresh hp
  by_cases hb : b = a
  · subst hb; rw [upd_same] at e; cases e; exact new
  · rw [upd_ne hb] at e
    exact (x b u e).stay (fun c v _ q => k c v q) (fun c q => by rw [upd_ne (ne_of_none q hn)]; exact q) fun c xs q => by rw [upd_ne (ne_of_none q hn)]; exact q
end
def Rd (H : Hp) (a : Addr) (u : HO) : Prop := H a = some u ∨ ∃ o, H a = some (.frz o u)
theorem Rd.of {H : Hp} {a : Addr} {u : HO} (h : H a = some u) : Rd H a u := .inl h
theorem Rd.ok {P : Program} {w : World} {H : Hp} {h : Heap} {a : Addr} {u : HO} (r : Rd H a u) (x : HOk P w H h) : ObjOk P w H h a u := by
  rcases r with r | ⟨o, r⟩
  · exact x a u r
  · obtain ⟨_, q⟩ := x a _ r
    exact q
def Mut : Option HO → Prop
  | some (.lst _) => True
  | some (.dK _) => True
  | some (.dT _) => True
  | some (.set _ _) => True
  | some (.ins _ _ _) => True
  | some (.ext _) => True
  | _ => False
section
variable {P : Program} {w : World} {H : Hp} {h h' : Heap} {x e : Addr} {o' : HO}
theorem HOk.write (ok : HOk P w H h) (mu : Mut (H x)) (he : e = x ∨ H e = some (.own x)) (k : ∀ b u, b ≠ e → h.get? b = some u → h'.get? b = some u) (heo : ∃ u, h'.get? e = some u)
    (new : ObjOk P w (upd H x o') h' x o') : HOk P w (upd H x o') h' := fun b u q => by
  have nown : ∀ c y, H c = some (.own y) → c ≠ x := fun c y r z => by subst z; rw [r] at mu; exact mu
  have ntup : ∀ c xs, H c = some (.tup xs) → c ≠ x := fun c xs r z => by subst z; rw [r] at mu; exact mu
  by_cases hb : b = x
  · subst hb; rw [upd_same] at q; cases q; exact new
  · rw [upd_ne hb] at q
    by_cases hbe : b = e
    · have q' : H b = some (.own x) := by
        rcases he with z | z
        · exact absurd (hbe.trans z) hb
        · rw [hbe]; exact z
      rw [q] at q'; cases q'
      obtain ⟨v, hv⟩ := heo
      exact ⟨v, by rw [hbe]; exact hv⟩
    · refine (ok b u q).stay (fun c v hc r => k c v ?_ r) (fun c r => by rw [upd_ne (nown c b r)]; exact r) fun c xs r => by rw [upd_ne (ntup c xs r)]; exact r
      rcases hc with rfl | hc
      · exact hbe
      · rintro rfl
        rcases he with z | z
        · exact nown c b hc z
        · rw [hc] at z; cases z; exact hb rfl
end
structure Un (fs ex : List Addr) (H H' : Hp) (h h' : Heap) : Prop where
  keep : ∀ b o, h.get? b = some o → H b = none → b ∉ fs → b ∉ ex → h'.get? b = some o
  slot : ∀ b o, h.get? b = some o → H b = none → b ∈ fs → b ∉ ex → ∃ sl, h'.get? b = some { o with slots := sl }
  free : ∀ b o, h.get? b = some o → H b = none → b ∉ ex → H' b = none
  there : ∀ b o, h.get? b = some o → b ∉ ex → ∃ o', h'.get? b = some o'
  tups : ∀ b xs, H b = some (.tup xs) → H' b = some (.tup xs)
  frzs : ∀ b o u, H b = some (.frz o u) → H' b = some (.frz o u)
  tbls : ∀ b ps, H b = some (.tbl ps) → ∃ more, H' b = some (.tbl (ps ++ more))
section
variable {fs fs' ex ex' : List Addr} {H H1 H2 : Hp} {h h1 h2 h' : Heap} {a x e : Addr} {o : HO}
theorem Un.any (u : Un fs ex H H1 h h1) {b : Addr} {ob : Obj} (q : h.get? b = some ob) (n : H b = none) (hx : b ∉ ex) : ∃ sl, h1.get? b = some { ob with slots := sl } := by
  by_cases hb : b ∈ fs
  · exact u.slot b ob q n hb hx
  · exact ⟨ob.slots, u.keep b ob q n hb hx⟩
theorem Un.trans (a : Un fs ex H H1 h h1) (b : Un fs ex H1 H2 h1 h2) : Un fs ex H H2 h h2 where
  keep := fun c ob q n hc hx => b.keep c ob (a.keep c ob q n hc hx) (a.free c ob q n hx) hc hx
  slot := fun c ob q n hc hx => by
    obtain ⟨sl, e1⟩ := a.slot c ob q n hc hx
    obtain ⟨sl', e2⟩ := b.slot c _ e1 (a.free c ob q n hx) hc hx
    exact ⟨sl', e2⟩
  free := fun c ob q n hx => by
    obtain ⟨o', e1⟩ := a.there c ob q hx
    exact b.free c o' e1 (a.free c ob q n hx) hx
  there := fun c ob q hx => by
    obtain ⟨o', e1⟩ := a.there c ob q hx
    exact b.there c o' e1 hx
  tups := fun c xs q => b.tups c xs (a.tups c xs q)
  frzs := fun c ob xs q => b.frzs c ob xs (a.frzs c ob xs q)
  tbls := fun c ps q => by
    obtain ⟨m1, e1⟩ := a.tbls c ps q
    obtain ⟨m2, e2⟩ := b.tbls c _ e1
    exact ⟨m1 ++ m2, by rw [e2, Array.append_assoc]⟩
theorem Un.kept (k : ∀ b u, h.get? b = some u → h'.get? b = some u) : Un fs ex H H h h' :=
  ⟨fun b ob q _ _ _ => k b ob q, fun b ob q _ _ _ => ⟨ob.slots, k b ob q⟩, fun _ _ _ n _ => n, fun b ob q _ => ⟨ob, k b ob q⟩, fun _ _ q => q, fun _ _ _ q => q, fun _ ps q => ⟨#[], by rw [q]; simp⟩⟩
theorem Un.refl : Un fs ex H H h h := Un.kept fun _ _ q => q
theorem Un.laid (k : ∀ b u, h.get? b = some u → h'.get? b = some u) (hp : h.objs.size ≤ a) (hn : H a = none) : Un fs ex H (upd H a o) h h' where
  keep := fun b u q _ _ _ => k b u q
  slot := fun b u q _ _ _ => ⟨u.slots, k b u q⟩
  free := fun b u q n _ => by rw [upd_ne (Nat.ne_of_lt (Nat.lt_of_lt_of_le (Heap.lt_size q) hp))]; exact n
  there := fun b u q _ => ⟨u, k b u q⟩
  tups := fun b xs q => by rw [upd_ne (ne_of_none q hn)]; exact q
  frzs := fun b u xs q => by rw [upd_ne (ne_of_none q hn)]; exact q
  tbls := fun b ps q => ⟨#[], by rw [upd_ne (ne_of_none q hn), q]; simp⟩
theorem Un.write (mu : Mut (H x)) (he : e = x ∨ H e = some (.own x)) (k : ∀ b u, b ≠ e → h.get? b = some u → h'.get? b = some u) (heo : ∃ u, h'.get? e = some u) : Un fs ex H (upd H x o) h h' := by
  have hx : ∀ b, H b = none → b ≠ x := fun b n z => by subst z; rw [n] at mu; exact mu
  have hb : ∀ b, H b = none → b ≠ e := fun b n z => by
    subst z
    rcases he with r | r
    · exact hx b n r
    · rw [n] at r; cases r
  have hm : ∀ b u, H b = some u → ¬ Mut (some u) → b ≠ x := fun b u q nm z => by subst z; rw [q] at mu; exact nm mu
  refine ⟨fun b u q n _ _ => k b u (hb b n) q, fun b u q n _ _ => ⟨u.slots, k b u (hb b n) q⟩, fun b u q n _ => by rw [upd_ne (hx b n)]; exact n, fun b u q _ => ?_,
    fun b xs q => by rw [upd_ne (hm b _ q fun z => z)]; exact q, fun b u xs q => by rw [upd_ne (hm b _ q fun z => z)]; exact q, fun b ps q => ⟨#[], by rw [upd_ne (hm b _ q fun z => z), q]; simp⟩⟩
  by_cases hbe : b = e
  · subst hbe; exact heo
  · exact ⟨u, k b u hbe q⟩
theorem Un.mono (u : Un fs ex H H1 h h1) (hs : ∀ b ∈ fs, b ∈ fs') (hx : ∀ b ∈ ex, b ∈ ex') : Un fs' ex' H H1 h h1 :=
  ⟨fun b ob q n hb he => u.keep b ob q n (fun z => hb (hs b z)) fun z => he (hx b z), fun _ _ q n _ he => u.any q n fun z => he (hx _ z), fun b ob q n he => u.free b ob q n fun z => he (hx b z), fun b ob q he => u.there b ob q fun z => he (hx b z), u.tups, u.frzs, u.tbls⟩
end
def trk (h : Heap) (H : Hp) : List Addr := (List.range h.objs.size).filter fun a => (H a).isSome
def hidT (h : Heap) (H : Hp) : Heap := PySem.W.hideAll h (trk h H)
theorem hidT_size (h : Heap) (H : Hp) : (hidT h H).objs.size = h.objs.size := PySem.W.hideAll_size _ _
theorem hidT_get {h : Heap} {H : Hp} {b : Addr} {o : Obj} (e : h.get? b = some o) (n : H b = none) : (hidT h H).get? b = some o :=
  PySem.W.hideAll_get _ e fun hm => by
    have q : (H b).isSome = true := (List.mem_filter.mp hm).2
    rw [n] at q; simp at q
theorem of_hidT {h : Heap} {H : Hp} {b : Addr} {o : Obj} (e : (hidT h H).get? b = some o) : h.get? b = some o ∧ H b = none := by
  have e' : h.get? b = some o := PySem.W.of_hideAll (trk h H) e
  refine ⟨e', ?_⟩
  cases q : H b with
  | none => rfl
  | some x =>
    have hm : b ∈ trk h H := List.mem_filter.mpr ⟨List.mem_range.mpr (Heap.lt_size e'), by simp [q]⟩
    have z : (hidT h H).get? b = none := PySem.W.hideAll_none (trk h H) hm
    rw [z] at e; cases e
def allNews (g h : Heap) (L : Addr) : List (Addr × Obj) := (List.range h.objs.size).filterMap fun a => if a = L ∨ (g.get? a).isSome = true then none else (h.get? a).map fun o => (a, o)
def rest (g h : Heap) (L d : Addr) : List (Addr × Obj) := (allNews g h L).filter fun p => decide (p.1 ≠ d)
end L2
namespace L2
open PySem PySem.Spec PyProof.Rows
structure Mod (K : PySem.W.Frag) (mg : Str → Option Value) (base : Heap) : Prop where
  kin : K.In base
  glob : base.Ns mainGlobals mg
  blt : ∃ mb, base.Ns builtinsNs mb ∧ ∀ x : Str, x ≠ "__name__" → mb x = bootBuiltins x
  nolimit : base.NoLimit
structure Cx where
  prog : Program
  w : World
  K : PySem.W.Frag
  mg : Str → Option Value
  base : Heap
  A : Around
  N : List Str
  s₀ : Shared
  H₀ : Hp
  env : Env
  outer : List Env
  stack : List Env
  ex : List Addr
  fn : Str → Bool
  calm : Bool
  pn : List (Addr × Obj)
  xe : Value → Shared → Prop
def frs (l : List Env) : List Addr := l.filterMap (·.frame)
abbrev Cx.fs (X : Cx) : List Addr := frs X.outer
def Vis (sc : Scope) (x : Str) : Prop := sc.names.lookup x = some .local ∨ sc.names.lookup x = some .cell ∨ sc.names.lookup x = some .free
def Loc (sc : Scope) (x : Str) : Prop := sc.names.lookup x = some .local ∨ sc.names.lookup x = some .cell
def Look (env : Env) (h : Heap) (m : Str → Option Value) (x : Str) (u : Value) : Prop :=
  (env.kindOf x = some .local ∧ m x = some u) ∨ ((env.kindOf x = some .cell ∨ env.kindOf x = some .free) ∧ ∃ c, env.cells.lookup x = some c ∧ h.IsCell c (some u))
structure Cx.Ok (X : Cx) : Prop where
  mod : Mod X.K X.mg X.base
  kind : X.env.scope.kind = .function
  glob : X.env.globals = mainGlobals
  blt : X.env.builtins = builtinsNs
  above : X.s₀.heap.objs.size ≤ X.env.locals
  inj : ∀ x y c, X.env.cells.lookup x = some c → X.env.cells.lookup y = some c → x = y
  has : ∀ x, (X.env.kindOf x = some .cell ∨ X.env.kindOf x = some .free) → ∃ c, X.env.cells.lookup x = some c
  cab : ∀ x c, X.fn x = true → X.env.cells.lookup x = some c → X.s₀.heap.objs.size ≤ c
  hd : X.calm = true → X.A.handled = none
  frames : X.A.frames = some X.stack
  stk : X.stack = X.outer ∨ (X.stack = X.env :: X.outer ∧ X.env.frame = some X.env.locals)
  exf : ∀ b ∈ X.ex, b ≠ X.env.locals ∧ ∀ x c, X.env.cells.lookup x = some c → c ≠ b
  bs : ∀ b o, X.base.get? b = some o → X.s₀.heap.get? b = some o ∧ X.H₀ b = none
  bsz : X.base.objs.size ≤ X.s₀.heap.objs.size
  noex : ∀ b o, X.base.get? b = some o → b ∉ X.ex
  exfs : ∀ b ∈ X.ex, b ∉ X.fs
  funs : X.s₀.heap.FunFrames X.base X.outer
  frf : ∀ b ∈ X.fs, X.H₀ b = none
structure Inv (X : Cx) (pins : List (Addr × Obj)) (σ : List (Option V)) (H : Hp) (s : Shared) : Prop where
  ok : X.Ok
  os : s.os = X.s₀.os
  bare : AllBare s.gens
  base : Un X.fs X.ex X.H₀ H X.s₀.heap s.heap
  loc : ∃ m, s.heap.Ns X.env.locals m ∧ ∀ (i : Nat) (x : Str) (v : V), X.N[i]? = some x → σ[i]? = some (some v) → Vis X.env.scope x → ∃ u, RelV v u ∧ Look X.env s.heap m x u
  cell : ∀ x c, X.env.cells.lookup x = some c → ∃ v, s.heap.IsCell c v
  free : H X.env.locals = none
  freeC : ∀ x c, X.env.cells.lookup x = some c → H c = none
  pin : ∀ p ∈ X.pn ++ pins, s.heap.get? p.1 = some p.2 ∧ H p.1 = none ∧ p.1 ≠ X.env.locals ∧ p.1 ∉ X.fs ∧ ∀ v, p.2.data ≠ .cell v
  hok : HOk X.prog X.w H s.heap
  len : σ.length = X.N.length
section
variable {X : Cx} {pins : List (Addr × Obj)} {σ : List (Option V)} {H H' : Hp} {s : Shared} {h' : Heap}
theorem Cx.Ok.nofr (ok : X.Ok) {b : Addr} {o : Obj} (e : X.base.get? b = some o) : b ∉ X.fs := fun hb => by
  have := (ok.funs.mem hb).1
  rw [e] at this; cases this
theorem Inv.bs (I : Inv X pins σ H s) : ∀ b o, X.base.get? b = some o → s.heap.get? b = some o ∧ H b = none := fun b o e =>
  ⟨I.base.keep b o (I.ok.bs b o e).1 (I.ok.bs b o e).2 (I.ok.nofr e) (I.ok.noex b o e), I.base.free b o (I.ok.bs b o e).1 (I.ok.bs b o e).2 (I.ok.noex b o e)⟩
theorem Inv.bk (I : Inv X pins σ H s) : ∀ b o, X.base.get? b = some o → s.heap.get? b = some o := fun b o e => (I.bs b o e).1
theorem Inv.mod (I : Inv X pins σ H s) : Mod X.K X.mg X.base := I.ok.mod
theorem Inv.kIn (I : Inv X pins σ H s) : X.K.In s.heap := I.ok.mod.kin.keeps I.bk
theorem Inv.nolimit (I : Inv X pins σ H s) : s.heap.NoLimit := I.ok.mod.nolimit.keeps I.bk
theorem Inv.fr (I : Inv X pins σ H s) : ∃ m, Fr X.base X.env.locals s.heap m :=
  let ⟨m, hn, _⟩ := I.loc
  ⟨m, hn, I.bk, Nat.le_trans I.ok.bsz I.ok.above⟩
theorem Inv.lt (I : Inv X pins σ H s) : X.env.locals < s.heap.objs.size := let ⟨_, hn, _⟩ := I.loc; hn.lt
theorem Inv.sz (I : Inv X pins σ H s) : X.s₀.heap.objs.size ≤ s.heap.objs.size := Nat.le_trans I.ok.above (Nat.le_of_lt I.lt)
theorem Inv.nofs (I : Inv X pins σ H s) {a : Addr} (h : s.heap.objs.size ≤ a) : a ∉ X.fs := fun hb => by
  obtain ⟨_, o, ho, _⟩ := I.ok.funs.mem hb
  exact absurd (Nat.lt_of_lt_of_le (Heap.lt_size ho) (Nat.le_trans I.sz h)) (Nat.lt_irrefl _)
theorem Inv.cne (I : Inv X pins σ H s) : ∀ x c, X.env.cells.lookup x = some c → c ≠ X.env.locals := fun x c e z => by
  obtain ⟨v, o, ho, hd⟩ := I.cell x c e
  obtain ⟨m, ⟨o', es, ep, ho', hd', _⟩, _⟩ := I.loc
  rw [z, ho'] at ho; cases ho; rw [hd'] at hd; cases hd
theorem Inv.funs (I : Inv X pins σ H s) : s.heap.FunFrames X.base X.outer := by
  have all : ∀ (l : List Env), (∀ b ∈ frs l, b ∈ X.fs) → X.s₀.heap.FunFrames X.base l → s.heap.FunFrames X.base l := by
    intro l
    induction l with
    | nil => intro _ _; trivial
    | cons env r ih =>
      intro hs hl
      obtain ⟨hk, ⟨L, o, hf, hn, ho, hd⟩, hr⟩ := hl
      have hL : L ∈ X.fs := hs L (by unfold frs; rw [List.filterMap_cons, hf]; exact List.mem_cons_self)
      obtain ⟨sl, e⟩ := I.base.slot L o ho (I.ok.frf L hL) hL fun z => I.ok.exfs L z hL
      exact ⟨hk, ⟨L, _, hf, hn, e, hd⟩, ih (fun b hb => hs b (by unfold frs; rw [List.filterMap_cons, hf]; exact List.mem_cons_of_mem _ hb)) hr⟩
  exact all X.outer (fun _ hb => hb) I.ok.funs
theorem Inv.stack (I : Inv X pins σ H s) : s.heap.FunFrames X.base X.stack := by
  rcases I.ok.stk with e | ⟨e, hf⟩
  · rw [e]; exact I.funs
  · rw [e]
    obtain ⟨m, hn, _⟩ := I.loc
    refine .cons (by rw [I.ok.kind]; decide) hf hn ?_ I.funs
    exact Heap.get?_none_of_le (Nat.le_trans I.ok.bsz I.ok.above)
theorem Inv.stkSub (I : Inv X pins σ H s) : ∀ b ∈ frs X.stack, b ∈ X.env.locals :: X.fs := fun b hb => by
  rcases I.ok.stk with e | ⟨e, hf⟩
  · rw [e] at hb; exact List.mem_cons_of_mem _ hb
  · rw [e] at hb
    unfold frs at hb
    rw [List.filterMap_cons, hf] at hb
    exact hb
theorem Inv.stkFree (I : Inv X pins σ H s) : ∀ b ∈ frs X.stack, H b = none := fun b hb => by
  rcases List.mem_cons.mp (I.stkSub b hb) with e | hb
  · rw [e]; exact I.free
  · obtain ⟨_, o, ho, _⟩ := I.ok.funs.mem hb
    exact I.base.free b o ho (I.ok.frf b hb) fun z => I.ok.exfs b z hb
theorem Inv.step {g' : Array GenState} {t' : Nat} {d' : Drawn} {ch : List Addr} (I : Inv X pins σ H s)
    (hch : ∀ b ∈ ch, (b ∈ X.ex ∨ X.s₀.heap.objs.size ≤ b) ∧ b ≠ X.env.locals ∧ (∀ x c, X.env.cells.lookup x = some c → c ≠ b) ∧ ∀ p ∈ X.pn ++ pins, p.1 ≠ b)
    (keep : ∀ b o, b ≠ X.env.locals → b ∉ X.fs → b ∉ ch → s.heap.get? b = some o → H b = none → h'.get? b = some o)
    (slot : ∀ b o, b ≠ X.env.locals → b ∈ X.fs → b ∉ ch → s.heap.get? b = some o → H b = none → ∃ sl, h'.get? b = some { o with slots := sl }) (free : ∀ b o, b ∉ ch → s.heap.get? b = some o → H b = none → H' b = none)
    (there : ∀ b o, b ∉ ch → s.heap.get? b = some o → ∃ o', h'.get? b = some o')
    (tups : ∀ b xs, H b = some (.tup xs) → H' b = some (.tup xs)) (frzs : ∀ b o u, H b = some (.frz o u) → H' b = some (.frz o u)) (tbls : ∀ b ps, H b = some (.tbl ps) → ∃ more, H' b = some (.tbl (ps ++ more)))
    (ns : ∀ m, s.heap.Ns X.env.locals m → h'.Ns X.env.locals m) (hok : HOk X.prog X.w H' h') (hg : AllBare g') :
    Inv X pins σ H' { s with heap := h', gens := g', drawn := d', toks := t' } := by
  have neL : ∀ b o, X.s₀.heap.get? b = some o → b ≠ X.env.locals := fun b o e => Nat.ne_of_lt (Nat.lt_of_lt_of_le (Heap.lt_size e) I.ok.above)
  have neC : ∀ b o, X.s₀.heap.get? b = some o → b ∉ X.ex → b ∉ ch := fun b o e hx hb => by
    rcases (hch b hb).1 with z | z
    · exact hx z
    · exact absurd (Nat.lt_of_lt_of_le (Heap.lt_size e) z) (Nat.lt_irrefl _)
  have cellK : ∀ x c, X.env.cells.lookup x = some c → ∀ v, s.heap.IsCell c v → h'.IsCell c v := fun x c e v ⟨o, ho, hd⟩ => by
    have nch : c ∉ ch := fun z => (hch c z).2.2.1 x c e rfl
    by_cases hc : c ∈ X.fs
    · obtain ⟨sl, q⟩ := slot c o (I.cne x c e) hc nch ho (I.freeC x c e)
      exact ⟨_, q, hd⟩
    · exact ⟨o, keep c o (I.cne x c e) hc nch ho (I.freeC x c e), hd⟩
  refine ⟨I.ok, I.os, hg, ⟨fun b o e n hb hx => ?_, fun b o e n hb hx => ?_, fun b o e n hx => ?_, fun b o e hx => ?_, fun b xs e => tups b xs (I.base.tups b xs e), fun b o xs e => frzs b o xs (I.base.frzs b o xs e), fun b ps e => ?_⟩, ?_, fun x c e => ?_, ?_, fun x c e => ?_, fun p hp => ?_, hok, I.len⟩
  · exact keep b o (neL b o e) hb (neC b o e hx) (I.base.keep b o e n hb hx) (I.base.free b o e n hx)
  · obtain ⟨sl, e1⟩ := I.base.slot b o e n hb hx
    obtain ⟨sl', e2⟩ := slot b _ (neL b o e) hb (neC b o e hx) e1 (I.base.free b o e n hx)
    exact ⟨sl', e2⟩
  · obtain ⟨o', e1⟩ := I.base.there b o e hx
    exact free b o' (neC b o e hx) e1 (I.base.free b o e n hx)
  · obtain ⟨o', e1⟩ := I.base.there b o e hx
    exact there b o' (neC b o e hx) e1
  · obtain ⟨m1, e1⟩ := I.base.tbls b ps e
    obtain ⟨m2, e2⟩ := tbls b _ e1
    exact ⟨m1 ++ m2, by rw [e2, Array.append_assoc]⟩
  · obtain ⟨m, hn, hl⟩ := I.loc
    refine ⟨m, ns m hn, fun i x v e1 e2 e3 => ?_⟩
    obtain ⟨u, r, l⟩ := hl i x v e1 e2 e3
    refine ⟨u, r, ?_⟩
    rcases l with l | ⟨k, c, e, z⟩
    · exact .inl l
    · exact .inr ⟨k, c, e, cellK x c e _ z⟩
  · obtain ⟨v, z⟩ := I.cell x c e
    exact ⟨v, cellK x c e v z⟩
  · obtain ⟨m, ⟨o, _, _, ho, _⟩, _⟩ := I.loc
    exact free _ o (fun z => (hch _ z).2.1 rfl) ho I.free
  · obtain ⟨v, o, ho, hd⟩ := I.cell x c e
    exact free c o (fun z => (hch c z).2.2.1 x c e rfl) ho (I.freeC x c e)
  · obtain ⟨e, n, ne, nf, d⟩ := I.pin p hp
    have nch : p.1 ∉ ch := fun z => (hch p.1 z).2.2.2 p hp rfl
    exact ⟨keep p.1 p.2 ne nf nch e n, free p.1 p.2 nch e n, ne, nf, d⟩
theorem Inv.un {t' : Nat} (I : Inv X pins σ H s) (u : Un X.fs [] H H' s.heap h') (hok : HOk X.prog X.w H' h') : Inv X pins σ H' { s with heap := h', toks := t' } := by
  obtain ⟨m, ⟨o, es, ep, ho, r⟩, _⟩ := id I.loc
  obtain ⟨sl, hL⟩ := u.any ho I.free (by simp)
  exact I.step (g' := s.gens) (d' := s.drawn) (ch := []) (fun _ z => nomatch z) (fun b o _ hb _ e n => u.keep b o e n hb (by simp)) (fun b o _ hb _ e n => u.slot b o e n hb (by simp)) (fun b o _ e n => u.free b o e n (by simp)) (fun b o _ e => u.there b o e (by simp)) u.tups u.frzs u.tbls (fun m' hm => by
    obtain ⟨o', es', ep', ho', r'⟩ := hm
    rw [ho] at ho'; cases ho'
    exact ⟨_, es', ep', hL, r'⟩) hok I.bare
theorem Inv.call {g' : Array GenState} {t' : Nat} {d' : Drawn} {ch : List Addr} (I : Inv X pins σ H s) (u : Un (frs X.stack) ch H H' s.heap h') (hok : HOk X.prog X.w H' h') (hg : AllBare g')
    (hch : ∀ b ∈ ch, (b ∈ X.ex ∨ X.s₀.heap.objs.size ≤ b) ∧ b ≠ X.env.locals ∧ (∀ x c, X.env.cells.lookup x = some c → c ≠ b) ∧ ∀ p ∈ X.pn ++ pins, p.1 ≠ b) :
    Inv X pins σ H' { s with heap := h', gens := g', drawn := d', toks := t' } := by
  obtain ⟨m, ⟨o, es, ep, ho, r⟩, _⟩ := id I.loc
  obtain ⟨sl, hL⟩ := u.any ho I.free fun z => (hch _ z).2.1 rfl
  exact I.step (ch := ch) hch (fun b o hL hb hc e n => u.keep b o e n (fun z => (List.mem_cons.mp (I.stkSub b z)).elim hL hb) hc) (fun b o _ _ hc e n => u.any e n hc) (fun b o hc e n => u.free b o e n hc) (fun b o hc e => u.there b o e hc) u.tups u.frzs u.tbls (fun m' hm => by
    obtain ⟨o', es', ep', ho', r'⟩ := hm
    rw [ho] at ho'; cases ho'
    exact ⟨_, es', ep', hL, r'⟩) hok hg
theorem Inv.turned {t' : Nat} {it : Addr} (I : Inv X pins σ H s) (k : ∀ b o, b ≠ it → s.heap.get? b = some o → h'.get? b = some o) (hn : H it = none) (hL : it ≠ X.env.locals)
    (h1 : it ∈ X.ex ∨ X.s₀.heap.objs.size ≤ it) (h2 : ∀ x c, X.env.cells.lookup x = some c → c ≠ it) (h3 : ∀ p ∈ X.pn ++ pins, p.1 ≠ it) : Inv X pins σ H { s with heap := h', toks := t' } := by
  have nit : ∀ b u, H b = some u → b ≠ it := fun b u e z => by rw [z, hn] at e; cases e
  refine I.step (g' := s.gens) (d' := s.drawn) (ch := [it]) (fun b hb => ?_) (fun b o _ _ hc e _ => k b o (fun z => hc (by simp [z])) e) (fun b o _ _ hc e _ => ⟨o.slots, k b o (fun z => hc (by simp [z])) e⟩) (fun _ _ _ _ n => n)
    (fun b o hc e => ⟨o, k b o (fun z => hc (by simp [z])) e⟩) (fun _ _ e => e) (fun _ _ _ e => e) (fun b ps e => ⟨#[], by rw [e]; simp⟩) (fun m hm => ?_) (fun b u e => ?_) I.bare
  · have e : b = it := by simpa using hb
    subst e
    exact ⟨h1, hL, h2, h3⟩
  · obtain ⟨o, es, ep, ho, r⟩ := hm
    exact ⟨o, es, ep, k _ o (Ne.symm hL) ho, r⟩
  · refine (I.hok b u e).stay (fun c v hc q => k c v ?_ q) (fun _ q => q) fun _ _ q => q
    rcases hc with z | z
    · rw [z]; exact nit b u e
    · exact nit c _ z
theorem Inv.tok (I : Inv X pins σ H s) (t : Nat) : Inv X pins σ H { s with toks := t } := I.un (h' := s.heap) (t' := t) Un.refl I.hok
theorem Inv.kept {t' : Nat} (I : Inv X pins σ H s) (k : ∀ b u, s.heap.get? b = some u → h'.get? b = some u) : Inv X pins σ H { s with heap := h', toks := t' } := I.un (Un.kept k) (I.hok.kept k)
theorem Inv.laid {a : Addr} {o : HO} {t' : Nat} (I : Inv X pins σ H s) (k : ∀ b u, s.heap.get? b = some u → h'.get? b = some u) (hp : s.heap.objs.size ≤ a) (new : ObjOk X.prog X.w (upd H a o) h' a o) :
    Inv X pins σ (upd H a o) { s with heap := h', toks := t' } := I.un (Un.laid k hp (I.hok.fresh hp)) (I.hok.laid k hp new)
theorem Inv.write {x e : Addr} {o : HO} {t' : Nat} (I : Inv X pins σ H s) (mu : Mut (H x)) (he : e = x ∨ H e = some (.own x)) (k : ∀ b u, b ≠ e → s.heap.get? b = some u → h'.get? b = some u) (heo : ∃ u, h'.get? e = some u)
    (new : ObjOk X.prog X.w (upd H x o) h' x o) : Inv X pins σ (upd H x o) { s with heap := h', toks := t' } := I.un (Un.write mu he k heo) (I.hok.write mu he k heo new)
theorem Inv.pins_of {pins' : List (Addr × Obj)} (I : Inv X pins σ H s) (h : ∀ p ∈ pins', s.heap.get? p.1 = some p.2 ∧ H p.1 = none ∧ p.1 ≠ X.env.locals ∧ p.1 ∉ X.fs ∧ ∀ v, p.2.data ≠ .cell v) : Inv X pins' σ H s :=
  ⟨I.ok, I.os, I.bare, I.base, I.loc, I.cell, I.free, I.freeC, fun p hp => (List.mem_append.mp hp).elim (fun z => I.pin p (List.mem_append_left _ z)) (h p), I.hok, I.len⟩
theorem nodup_ix {N : List Str} (hN : N.Nodup) {i j : Nat} {x : Str} (a : N[i]? = some x) (b : N[j]? = some x) : i = j := by
  obtain ⟨h1, e1⟩ := List.getElem?_eq_some_iff.mp a
  obtain ⟨h2, e2⟩ := List.getElem?_eq_some_iff.mp b
  exact (List.getElem_inj hN).mp (e1.trans e2.symm)
theorem store_ok2 {M : Model} {A : Around} {E : Value → Shared → Prop} {i : Nat} {x : Str} {v : V} {u : Value} {Q : Unit → Shared → Prop} (I : Inv X pins σ H s) (hN : X.N.Nodup) (hi : X.N[i]? = some x) (hx : Loc X.env.scope x) (r : RelV v u)
    (h : ∀ s', Inv X pins (σ.set i (some v)) H s' → (∃ a, Heap.SameBut a s.heap s'.heap ∧ (a = X.env.locals ∨ X.env.cells.lookup x = some a)) → Q () s') (hf : X.fn x = true ∨ X.env.scope.names.lookup x = some .local := by first | exact .inl rfl | exact .inr rfl | assumption) : wpAny M A (storeName X.env x u) Q E s := by
  obtain ⟨m, hn, hl⟩ := id I.loc
  have hcls : (X.env.scope.kind == .class || (X.env.scope.kind == .module && X.env.locals != X.env.globals)) = false := by rw [I.ok.kind]; rfl
  have hiσ : i < σ.length := by rw [I.len]; exact (List.getElem?_eq_some_iff.mp hi).1
  have cne := I.cne
  have tracked : ∀ {a : Addr} {h' : Heap}, (∃ o, s.heap.get? a = some o ∧ H a = none) → Heap.SameBut a s.heap h' → HOk X.prog X.w H h' := fun {a h'} ha hs b ob e => by
    obtain ⟨_, _, hfree⟩ := ha
    refine (I.hok b ob e).stay (fun c w' hc q => (hs.2 c ?_).trans q) (fun _ q => q) fun _ _ q => q
    rintro rfl
    rcases hc with rfl | hc
    · rw [hfree] at e; cases e
    · rw [hfree] at hc; cases hc
  rcases hx with hk | hk
  · refine wpAny_storeName_local hk hn (fun h' hn' hs => ?_) hcls
    obtain ⟨oL, _, _, hoL, _⟩ := id hn
    refine h _ ⟨I.ok, I.os, I.bare, ⟨fun b o e n hb hx => ?_, fun b o e n hb hx => ?_, I.base.free, fun b o e hx => ?_, I.base.tups, I.base.frzs, I.base.tbls⟩, ⟨_, hn', fun j y v' e1 e2 e3 => ?_⟩, fun y c e => ?_, I.free, I.freeC, fun p hp => ?_, tracked ⟨oL, hoL, I.free⟩ hs, by simpa using I.len⟩ ⟨_, hs, .inl rfl⟩
    · exact (hs.2 b (Nat.ne_of_lt (Nat.lt_of_lt_of_le (Heap.lt_size e) I.ok.above))).trans (I.base.keep b o e n hb hx)
    · obtain ⟨sl, e1⟩ := I.base.slot b o e n hb hx
      exact ⟨sl, (hs.2 b (Nat.ne_of_lt (Nat.lt_of_lt_of_le (Heap.lt_size e) I.ok.above))).trans e1⟩
    · obtain ⟨o', e1⟩ := I.base.there b o e hx
      exact ⟨o', (hs.2 b (Nat.ne_of_lt (Nat.lt_of_lt_of_le (Heap.lt_size e) I.ok.above))).trans e1⟩
    · by_cases hj : j = i
      · subst hj
        rw [hi] at e1; cases e1
        rw [List.getElem?_set_self hiσ] at e2
        cases e2
        exact ⟨u, r, .inl ⟨hk, by simp⟩⟩
      · rw [List.getElem?_set_ne (Ne.symm hj)] at e2
        obtain ⟨u', r', q⟩ := hl j y v' e1 e2 e3
        refine ⟨u', r', ?_⟩
        rcases q with ⟨k, e⟩ | ⟨k, c, e, z⟩
        · refine .inl ⟨k, ?_⟩
          have : y ≠ x := fun e => hj (nodup_ix hN e1 (e ▸ hi))
          simp [this, e]
        · exact .inr ⟨k, c, e, z.sameBut hs (cne y c e)⟩
    · obtain ⟨w', z⟩ := I.cell y c e
      exact ⟨w', z.sameBut hs (cne y c e)⟩
    · obtain ⟨e, n, ne, nf, d⟩ := I.pin p hp
      exact ⟨(hs.2 p.1 ne).trans e, n, ne, nf, d⟩
  · have hfn : X.fn x = true := by
      rcases hf with z | z
      · exact z
      · rw [z] at hk; cases hk
    obtain ⟨c, hc⟩ := I.ok.has x (.inl hk)
    obtain ⟨w', z⟩ := I.cell x c hc
    refine wpAny_storeName_cell I.ok.kind hk hc z (fun h' hc' hs => ?_)
    obtain ⟨oc, hoc, hocd⟩ := id z
    refine h { s with heap := h' } ⟨I.ok, I.os, I.bare, ⟨fun b o e n hb hx => ?_, fun b o e n hb hx => ?_, I.base.free, fun b o e hx => ?_, I.base.tups, I.base.frzs, I.base.tbls⟩, ⟨m, hn.sameBut hs (Ne.symm (cne x c hc)), fun j y v' e1 e2 e3 => ?_⟩, fun y c' e => ?_, I.free, I.freeC, fun p hp => ?_, tracked ⟨oc, hoc, I.freeC x c hc⟩ hs, by simpa using I.len⟩ ⟨c, hs, .inr hc⟩
    · exact (hs.2 b (Nat.ne_of_lt (Nat.lt_of_lt_of_le (Heap.lt_size e) (I.ok.cab x c hfn hc)))).trans (I.base.keep b o e n hb hx)
    · obtain ⟨sl, e1⟩ := I.base.slot b o e n hb hx
      exact ⟨sl, (hs.2 b (Nat.ne_of_lt (Nat.lt_of_lt_of_le (Heap.lt_size e) (I.ok.cab x c hfn hc)))).trans e1⟩
    · obtain ⟨o', e1⟩ := I.base.there b o e hx
      exact ⟨o', (hs.2 b (Nat.ne_of_lt (Nat.lt_of_lt_of_le (Heap.lt_size e) (I.ok.cab x c hfn hc)))).trans e1⟩
    · by_cases hj : j = i
      · subst hj
        rw [hi] at e1; cases e1
        rw [List.getElem?_set_self hiσ] at e2
        cases e2
        exact ⟨u, r, .inr ⟨.inl hk, c, hc, hc'⟩⟩
      · rw [List.getElem?_set_ne (Ne.symm hj)] at e2
        obtain ⟨u', r', q⟩ := hl j y v' e1 e2 e3
        refine ⟨u', r', ?_⟩
        rcases q with q | ⟨k, c', e, z'⟩
        · exact .inl q
        · refine .inr ⟨k, c', e, z'.sameBut hs ?_⟩
          rintro rfl
          exact hj (nodup_ix hN e1 (I.ok.inj _ _ _ e hc ▸ hi))
    · by_cases hcc : c' = c
      · subst hcc; exact ⟨_, hc'⟩
      · obtain ⟨w2, z2⟩ := I.cell y c' e
        exact ⟨w2, z2.sameBut hs hcc⟩
    · obtain ⟨e, n, ne, nf, d⟩ := I.pin p hp
      refine ⟨(hs.2 p.1 ?_).trans e, n, ne, nf, d⟩
      intro q
      rw [q, hoc] at e
      have q' : oc = p.2 := Option.some.inj e
      exact d w' (by rw [← q']; exact hocd)
theorem store_ok {M : Model} {A : Around} {E : Value → Shared → Prop} {i : Nat} {x : Str} {v : V} {u : Value} {Q : Unit → Shared → Prop} (I : Inv X pins σ H s) (hN : X.N.Nodup) (hi : X.N[i]? = some x) (hx : Loc X.env.scope x) (r : RelV v u)
    (h : ∀ s', Inv X pins (σ.set i (some v)) H s' → Q () s') (hf : X.fn x = true ∨ X.env.scope.names.lookup x = some .local := by first | exact .inl rfl | exact .inr rfl | assumption) : wpAny M A (storeName X.env x u) Q E s :=
  store_ok2 I hN hi hx r (fun s' I' _ => h s' I') hf
theorem Inv.call' {s' : Shared} {ch : List Addr} (I : Inv X pins σ H s) (ho : s'.os = s.os) (u : Un (frs X.stack) ch H H' s.heap s'.heap) (hok : HOk X.prog X.w H' s'.heap) (hg : AllBare s'.gens)
    (hch : ∀ b ∈ ch, (b ∈ X.ex ∨ X.s₀.heap.objs.size ≤ b) ∧ b ≠ X.env.locals ∧ (∀ x c, X.env.cells.lookup x = some c → c ≠ b) ∧ ∀ p ∈ X.pn ++ pins, p.1 ≠ b) : Inv X pins σ H' s' := by
  obtain ⟨h', g', d', t', o'⟩ := s'
  have e : o' = s.os := ho
  subst e
  exact I.call (g' := g') (t' := t') (d' := d') u hok hg hch
end
abbrev XK := Value → Option Addr → Hp → Prop
abbrev St := List (Option V)
abbrev VK := V → Hp → Prop
abbrev TE := St → Hp → VK → Prop
abbrev TT := St → Hp → (Bool → Hp → Prop) → Prop
abbrev TA := St → Hp → (List V → Hp → Prop) → Prop
structure Ends where
  nx : St → Hp → Prop
  rt : VK
  bk : St → Hp → Prop := fun _ _ => False
  ct : St → Hp → Prop := fun _ _ => False
abbrev TS := Ends → St → Hp → Prop
def EP (X : Cx) (pins : List (Addr × Obj)) (σ : St) (Q : VK) (u : Value) (s' : Shared) : Prop := ∃ v H', Inv X pins σ H' s' ∧ RelV v u ∧ Q v H'
def TP (X : Cx) (pins : List (Addr × Obj)) (σ : St) (Q : Bool → Hp → Prop) (b : Bool) (s' : Shared) : Prop := ∃ H', Inv X pins σ H' s' ∧ Q b H'
def AP (X : Cx) (pins : List (Addr × Obj)) (σ : St) (Q : List V → Hp → Prop) (us : List Value) (s' : Shared) : Prop := ∃ vs H', Inv X pins σ H' s' ∧ Vals vs us ∧ Q vs H'
def SP (X : Cx) (pins : List (Addr × Obj)) (D : Ends) (f : Flow) (s' : Shared) : Prop :=
  match f with
  | .next => ∃ σ' H', Inv X pins σ' H' s' ∧ D.nx σ' H'
  | .brk => ∃ σ' H', Inv X pins σ' H' s' ∧ D.bk σ' H'
  | .cont => ∃ σ' H', Inv X pins σ' H' s' ∧ D.ct σ' H'
  | .ret u => ∃ v σ' H', Inv X pins σ' H' s' ∧ RelV v u ∧ D.rt v H'
def PE (X : Cx) (e : Expr) (t : TE) : Prop :=
  ∀ (pins : List (Addr × Obj)) (s : Shared) (σ : St) (H : Hp) (Q : VK), Inv X pins σ H s → t σ H Q → wpAny (model X.prog X.w) X.A (eval e X.env) (EP X pins σ Q) X.xe s
@[irreducible] def JE (X : Cx) (e : Expr) (t : TE) : Prop := PE X e t
theorem JE.of {X : Cx} {e : Expr} {t : TE} (h : PE X e t) : JE X e t := by unfold JE; exact h
theorem JE.to {X : Cx} {e : Expr} {t : TE} (h : JE X e t) : PE X e t := by unfold JE at h; exact h
def PT (X : Cx) (e : Expr) (t : TT) : Prop :=
  ∀ (pins : List (Addr × Obj)) (s : Shared) (σ : St) (H : Hp) (Q : Bool → Hp → Prop), Inv X pins σ H s → t σ H Q → wpAny (model X.prog X.w) X.A (isTrue e X.env (eval e X.env)) (TP X pins σ Q) X.xe s
@[irreducible] def JT (X : Cx) (e : Expr) (t : TT) : Prop := PT X e t
theorem JT.of {X : Cx} {e : Expr} {t : TT} (h : PT X e t) : JT X e t := by unfold JT; exact h
theorem JT.to {X : Cx} {e : Expr} {t : TT} (h : JT X e t) : PT X e t := by unfold JT at h; exact h
def PW (X : Cx) (e : Expr) (t : TT) : Prop :=
  ∀ (whole : Sem Value) (pins : List (Addr × Obj)) (s : Shared) (σ : St) (H : Hp) (Q : Bool → Hp → Prop), Inv X pins σ H s → t σ H Q → wpAny (model X.prog X.w) X.A (isTrue e X.env whole) (TP X pins σ Q) X.xe s
theorem PW.pt {X : Cx} {e : Expr} {t : TT} (h : PW X e t) : PT X e t := h _
@[irreducible] def JW (X : Cx) (e : Expr) (t : TT) : Prop := PW X e t
theorem JW.of {X : Cx} {e : Expr} {t : TT} (h : PW X e t) : JW X e t := by unfold JW; exact h
theorem JW.to {X : Cx} {e : Expr} {t : TT} (h : JW X e t) : PW X e t := by unfold JW at h; exact h
theorem JW.pt {X : Cx} {e : Expr} {t : TT} (h : JW X e t) : JT X e t := .of h.to.pt
def PA (X : Cx) (es : List Expr) (t : TA) : Prop :=
  ∀ (pos : Pos) (pins : List (Addr × Obj)) (s : Shared) (σ : St) (H : Hp) (Q : List V → Hp → Prop), Inv X pins σ H s → t σ H Q → wpAny (model X.prog X.w) X.A (spliced (backTo pos (starEach es X.env))) (AP X pins σ Q) X.xe s
@[irreducible] def JA (X : Cx) (es : List Expr) (t : TA) : Prop := PA X es t
theorem JA.of {X : Cx} {es : List Expr} {t : TA} (h : PA X es t) : JA X es t := by unfold JA; exact h
theorem JA.to {X : Cx} {es : List Expr} {t : TA} (h : JA X es t) : PA X es t := by unfold JA at h; exact h
def PS (X : Cx) (st : Stmt) (t : TS) : Prop :=
  ∀ (pins : List (Addr × Obj)) (s : Shared) (σ : St) (H : Hp) (D : Ends), Inv X pins σ H s → t D σ H → wpAny (model X.prog X.w) X.A (exec st X.env) (SP X pins D) X.xe s
@[irreducible] def JS (X : Cx) (st : Stmt) (t : TS) : Prop := PS X st t
theorem JS.of {X : Cx} {st : Stmt} {t : TS} (h : PS X st t) : JS X st t := by unfold JS; exact h
theorem JS.to {X : Cx} {st : Stmt} {t : TS} (h : JS X st t) : PS X st t := by unfold JS at h; exact h
def PSs (X : Cx) (st : List Stmt) (t : TS) : Prop :=
  ∀ (pins : List (Addr × Obj)) (s : Shared) (σ : St) (H : Hp) (D : Ends), Inv X pins σ H s → t D σ H → wpAny (model X.prog X.w) X.A (execs st X.env) (SP X pins D) X.xe s
@[irreducible] def JSs (X : Cx) (st : List Stmt) (t : TS) : Prop := PSs X st t
theorem JSs.of {X : Cx} {st : List Stmt} {t : TS} (h : PSs X st t) : JSs X st t := by unfold JSs; exact h
theorem JSs.to {X : Cx} {st : List Stmt} {t : TS} (h : JSs X st t) : PSs X st t := by unfold JSs at h; exact h
theorem thn {α : Type} {t : Sem α} {Q Q' : α → Shared → Prop} {M : Model} {A : Around} {E : Value → Shared → Prop} {s : Shared} (h : wpAny M A t Q E s) (hQ : ∀ a s, Q a s → Q' a s) : wpAny M A t Q' E s := wpAny_mono h hQ fun _ _ x => x
end L2
namespace L2
open PySem PySem.Spec PyProof.Rows
section
variable {X : Cx}
def tVar (i : Nat) : TE := fun σ H Q => ∃ v, σ[i]? = some (some v) ∧ Q v H
def tC (v : V) : TE := fun _ H Q => Q v H
theorem pe_var {i : Nat} {x : Str} {pos : Pos} (hN : X.N[i]? = some x) (hv : Vis X.env.scope x) (hd : (x == ("__debug__" : Str)) = false := by decide) (hcd : (x == ("__classdict__" : Str)) = false := by decide) : PE X (.Name x pos) (tVar i) := by
  intro pins s σ H Q I h
  obtain ⟨v, e, h⟩ := h
  obtain ⟨m, hn, hl⟩ := I.loc
  obtain ⟨u, r, l⟩ := hl i x v hN e hv
  have fin : EP X pins σ Q u s := ⟨v, H, I, r, h⟩
  rcases l with ⟨hk, hm⟩ | ⟨hk, c, hc, hcell⟩
  · exact wpAny_Name (wpAny_loadName_local I.ok.kind hk hn hm fin) hd
  · rcases hk with hk | hk
    · exact wpAny_Name (wpAny_loadName_cell I.ok.kind hk hc hcell fin) hd
    · exact wpAny_Name (wpAny_loadName_free I.ok.kind hk hc hcell fin hcd) hd
theorem pe_int {i j pos} : PE X (.Constant (.int i) j pos) (tC (.int i)) := fun _ _ _ H _ I h => wpAny_Constant_int ⟨.int i, H, I.tok _, ⟨_, rfl⟩, h⟩
theorem je_int {i j pos} : JE X (.Constant (.int i) j pos) (tC (.int i)) := .of (pe_int )
theorem pe_bl {b j pos} : PE X (.Constant (.bool b) j pos) (tC (.bl b)) := fun _ _ _ H _ I h => Constant_bool ⟨.bl b, H, I, rfl, h⟩
theorem je_bl {b j pos} : JE X (.Constant (.bool b) j pos) (tC (.bl b)) := .of (pe_bl )
theorem pe_non {j pos} : PE X (.Constant .none j pos) (tC .non) := fun _ _ _ H _ I h => Constant_none ⟨.non, H, I, rfl, h⟩
theorem je_non {j pos} : JE X (.Constant .none j pos) (tC .non) := .of (pe_non )
theorem pe_str {x j pos} : PE X (.Constant (.str x) j pos) (tC (.str x)) := fun _ _ _ H _ I h => Calls.Constant_str ⟨.str x, H, I.tok _, ⟨_, rfl⟩, h⟩
theorem je_str {x j pos} : JE X (.Constant (.str x) j pos) (tC (.str x)) := .of (pe_str )
def Gl (X : Cx) (x : Str) : Prop := X.env.kindOf x = some .globalImplicit
theorem ld_glob {E : Value → Shared → Prop} {pins : List (Addr × Obj)} {s : Shared} {σ : St} {H : Hp} {x : Str} {u : Value} {pos : Pos} {Q : Value → Shared → Prop} (I : Inv X pins σ H s) (hg : Gl X x) (hm : X.mg x = some u) (h : Q u s)
    (hd : (x == ("__debug__" : Str)) = false := by decide) : wpAny (model X.prog X.w) X.A (eval (.Name x pos) X.env) Q E s :=
  Calls.Name_function_global I.ok.kind hg (Calls.loadGlobal_global (by rw [I.ok.glob]; exact I.mod.glob.keeps I.bk) hm h) hd
theorem ld_blt {E : Value → Shared → Prop} {pins : List (Addr × Obj)} {s : Shared} {σ : St} {H : Hp} {x : Str} {u : Value} {pos : Pos} {Q : Value → Shared → Prop} (I : Inv X pins σ H s) (hg : Gl X x) (hm : X.mg x = none) (hv : bootBuiltins x = some u) (h : Q u s)
    (hn : x ≠ "__name__" := by decide) (hd : (x == ("__debug__" : Str)) = false := by decide) : wpAny (model X.prog X.w) X.A (eval (.Name x pos) X.env) Q E s := by
  obtain ⟨mb, h1, h2⟩ := I.mod.blt
  exact Calls.Name_function_global I.ok.kind hg (Calls.loadGlobal_builtin (by rw [I.ok.glob]; exact I.mod.glob.keeps I.bk) hm (by rw [I.ok.blt]; exact h1.keeps I.bk) ((h2 x hn).trans hv) h) hd
theorem pe_glob {x : Str} {v : V} {u : Value} {pos : Pos} (hg : Gl X x) (hm : X.mg x = some u) (r : RelV v u) (hd : (x == ("__debug__" : Str)) = false := by decide) : PE X (.Name x pos) (tC v) :=
  fun _ _ _ H _ I h => ld_glob I hg hm ⟨v, H, I, r, h⟩ hd
theorem je_glob {x : Str} {v : V} {u : Value} {pos : Pos} (hg : Gl X x) (hm : X.mg x = some u) (r : RelV v u) (hd : (x == ("__debug__" : Str)) = false := by decide) : JE X (.Name x pos) (tC v) := .of (pe_glob hg hm r hd)
theorem pe_bltn {x : Str} {v : V} {u : Value} {pos : Pos} (hg : Gl X x) (hm : X.mg x = none) (hv : bootBuiltins x = some u) (r : RelV v u) (hn : x ≠ "__name__" := by decide) (hd : (x == ("__debug__" : Str)) = false := by decide) : PE X (.Name x pos) (tC v) :=
  fun _ _ _ H _ I h => ld_blt I hg hm hv ⟨v, H, I, r, h⟩ hn hd
theorem je_bltn {x : Str} {v : V} {u : Value} {pos : Pos} (hg : Gl X x) (hm : X.mg x = none) (hv : bootBuiltins x = some u) (r : RelV v u) (hn : x ≠ "__name__" := by decide) (hd : (x == ("__debug__" : Str)) = false := by decide) : JE X (.Name x pos) (tC v) := .of (pe_bltn hg hm hv r hn hd)
variable {a b : Expr} {ta tb : TE} {pos : Pos}
def PC (X : Cx) (op : CmpOp) (a b : Expr) (t : TE) : Prop :=
  ∀ (pins : List (Addr × Obj)) (s : Shared) (σ : St) (H : Hp) (Q : VK), Inv X pins σ H s → t σ H Q →
    wpAny (model X.prog X.w) X.A (eval a X.env) (fun v s₁ => wpAny (model X.prog X.w) X.A (eval b X.env) (fun u s₂ => wpAny (model X.prog X.w) X.A (compareOp op v u) (EP X pins σ Q) X.xe s₂) X.xe s₁) X.xe s
@[irreducible] def JC (X : Cx) (op : CmpOp) (a b : Expr) (t : TE) : Prop := PC X op a b t
theorem JC.of {X : Cx} {op : CmpOp} {a b : Expr} {t : TE} (h : PC X op a b t) : JC X op a b t := by unfold JC; exact h
theorem JC.to {X : Cx} {op : CmpOp} {a b : Expr} {t : TE} (h : JC X op a b t) : PC X op a b t := by unfold JC at h; exact h
theorem nobehind (b : Expr) {op : CmpOp} (h : op ≠ .In) (h2 : op ≠ .NotIn) : behindInMarks op b = false := by
  have e1 : (op == CmpOp.In) = false := by cases op <;> first | rfl | exact absurd rfl h
  have e2 : (op == CmpOp.NotIn) = false := by cases op <;> first | rfl | exact absurd rfl h2
  cases b <;> simp [behindInMarks, e1, e2]
def tIsN (ta : TE) : TE := fun σ H Q => ta σ H fun x H1 => Q (.bl (decide (x = .non))) H1
theorem RelV.none_iff {x : V} {v : Value} (r : RelV x v) : (v == Value.none) = decide (x = .non) := by
  cases x with
  | non => cases r; rfl
  | bl _ => cases r; rfl
  | int _ => obtain ⟨t, rfl⟩ := r; rfl
  | str _ => obtain ⟨t, rfl⟩ := r; rfl
  | byt _ => obtain ⟨t, rfl⟩ := r; rfl
  | flt _ => obtain ⟨t, rfl⟩ := r; rfl
  | ref _ => cases r; rfl
  | ty _ => cases r; rfl
theorem pc_isN {j pos'} (ha : PE X a ta) : PC X .Is a (.Constant .none j pos') (tIsN ta) := by
  intro pins s σ H Q I h
  refine thn (ha pins s σ H _ I h) fun v s1 ⟨x, H1, I1, r1, q1⟩ => ?_
  exact Constant_none (is_none_gen ⟨.bl _, H1, I1, by rw [r1.none_iff]; rfl, q1⟩)
theorem jc_isN {j pos'} (ha : JE X a ta) : JC X .Is a (.Constant .none j pos') (tIsN ta) := .of (pc_isN ha.to)
def tB (t : TE) : TT := fun σ H Q => t σ H fun x H1 => ∃ c, x = .bl c ∧ Q c H1
theorem pe_cmp {op : CmpOp} {t : TE} (h : PC X op a b t) (h1 : behindInMarks op b = false := by first | exact nobehind _ (by decide) (by decide) | rfl) : PE X (.Compare a [op] [b] pos) t := fun pins s σ H Q I hw => wpAny_Compare1 (h pins s σ H Q I hw) h1
theorem je_cmp {op : CmpOp} {t : TE} (h : JC X op a b t) (h1 : behindInMarks op b = false := by first | exact nobehind _ (by decide) (by decide) | rfl) : JE X (.Compare a [op] [b] pos) t := .of (pe_cmp h.to h1)
theorem pt_cmp {op : CmpOp} {t : TE} (h : PC X op a b t) (h1 : behindInMarks op b = false := by first | exact nobehind _ (by decide) (by decide) | rfl) : PT X (.Compare a [op] [b] pos) (tB t) := by
  intro pins s σ H Q I hw
  refine wpAny_isTrue_Compare1 (thn (h pins s σ H _ I hw) fun v s1 h1 => thn h1 fun u s2 h2 => thn h2 fun c s3 ⟨x, H1, I1, r1, q1⟩ => ?_) h1
  obtain ⟨d, rfl, q⟩ := q1
  cases r1
  exact wpAny_truthy_bool ⟨H1, I1, q⟩
theorem jt_cmp {op : CmpOp} {t : TE} (h : JC X op a b t) (h1 : behindInMarks op b = false := by first | exact nobehind _ (by decide) (by decide) | rfl) : JT X (.Compare a [op] [b] pos) (tB t) := .of (pt_cmp h.to h1)
theorem pt_val {e : Expr} {t : TE} (h : PE X e t) (he : ∀ whole, isTrue e X.env whole = (do let v ← whole; standAt e.pos; holding [v] (truthy v)) := by intro _; rfl) : PT X e (tB t) := by
  intro pins s σ H Q I hw
  refine isTrue_plain (thn (h pins s σ H _ I hw) fun v s1 ⟨x, H1, I1, r1, q1⟩ => ?_) (he _)
  obtain ⟨d, rfl, q⟩ := q1
  cases r1
  exact wpAny_truthy_bool ⟨H1, I1, q⟩
theorem jt_val {e : Expr} {t : TE} (h : JE X e t) (he : ∀ whole, isTrue e X.env whole = (do let v ← whole; standAt e.pos; holding [v] (truthy v)) := by intro _; rfl) : JT X e (tB t) := .of (pt_val h.to he)
variable {tA tB' : TT} {rest : List Expr}
def tAnd (t u : TT) : TT := fun σ H Q => t σ H fun c H1 => if c = true then u σ H1 Q else Q false H1
def tOr (t u : TT) : TT := fun σ H Q => t σ H fun c H1 => if c = true then Q true H1 else u σ H1 Q
def tNot (t : TT) : TT := fun σ H Q => t σ H fun c H1 => Q (!c) H1
theorem pw_and1 (ha : PT X a tA) : PW X (.BoolOp .And [a] pos) tA := by
  intro wh pins s σ H Q I h
  refine isTrue_and (thn (ha pins s σ H Q I h) fun c s1 e => ?_)
  cases c with
  | true => exact isTrue_and_nil e
  | false => exact e
theorem jw_and1 (ha : JT X a tA) : JW X (.BoolOp .And [a] pos) tA := .of (pw_and1 ha.to)
theorem pw_or1 (ha : PT X a tA) : PW X (.BoolOp .Or [a] pos) tA := by
  intro wh pins s σ H Q I h
  refine isTrue_or (thn (ha pins s σ H Q I h) fun c s1 e => ?_)
  cases c with
  | false => exact isTrue_or_nil e
  | true => exact e
theorem jw_or1 (ha : JT X a tA) : JW X (.BoolOp .Or [a] pos) tA := .of (pw_or1 ha.to)
theorem pw_and (ha : PT X a tA) (hb : PW X (.BoolOp .And (b :: rest) pos) tB') : PW X (.BoolOp .And (a :: b :: rest) pos) (tAnd tA tB') := by
  intro wh pins s σ H Q I h
  refine isTrue_and (thn (ha pins s σ H _ I h) fun c s1 ⟨H1, I1, q1⟩ => ?_)
  cases c with
  | true => exact hb wh pins s1 σ H1 Q I1 q1
  | false => exact ⟨H1, I1, q1⟩
theorem jw_and (ha : JT X a tA) (hb : JW X (.BoolOp .And (b :: rest) pos) tB') : JW X (.BoolOp .And (a :: b :: rest) pos) (tAnd tA tB') := .of (pw_and ha.to hb.to)
theorem pw_or (ha : PT X a tA) (hb : PW X (.BoolOp .Or (b :: rest) pos) tB') : PW X (.BoolOp .Or (a :: b :: rest) pos) (tOr tA tB') := by
  intro wh pins s σ H Q I h
  refine isTrue_or (thn (ha pins s σ H _ I h) fun c s1 ⟨H1, I1, q1⟩ => ?_)
  cases c with
  | true => exact ⟨H1, I1, q1⟩
  | false => exact hb wh pins s1 σ H1 Q I1 q1
theorem jw_or (ha : JT X a tA) (hb : JW X (.BoolOp .Or (b :: rest) pos) tB') : JW X (.BoolOp .Or (a :: b :: rest) pos) (tOr tA tB') := .of (pw_or ha.to hb.to)
theorem pt_not (ha : PT X a tA) : PT X (.UnaryOp .Not a pos) (tNot tA) := by
  intro pins s σ H Q I h
  exact isTrue_not (ha pins s σ H (fun c H1 => Q (!c) H1) I h)
theorem jt_not (ha : JT X a tA) : JT X (.UnaryOp .Not a pos) (tNot tA) := .of (pt_not ha.to)
def tAndV (ta tb : TE) : TE := fun σ H Q => ta σ H fun x H1 => ∃ c, x = .bl c ∧ if c = true then tb σ H1 Q else Q (.bl false) H1
theorem pe_one {op} {t : TE} (h : PE X a t) : PE X (.BoolOp op [a] pos) t := fun pins s σ H Q I hw => BoolOp_one (h pins s σ H Q I hw)
theorem je_one {op} {t : TE} (h : JE X a t) : JE X (.BoolOp op [a] pos) t := .of (pe_one h.to)
theorem pe_and (ha : PE X a ta) (hb : PE X (.BoolOp .And (b :: rest) pos) tb) : PE X (.BoolOp .And (a :: b :: rest) pos) (tAndV ta tb) := by
  intro pins s σ H Q I h
  refine BoolOp_and (thn (ha pins s σ H _ I h) fun v s1 ⟨x, H1, I1, r1, q1⟩ => ?_)
  obtain ⟨c, rfl, q1⟩ := q1
  cases r1
  refine wpAny_truthy_bool ?_
  cases c with
  | true => exact hb pins s1 σ H1 Q I1 q1
  | false => exact ⟨.bl false, H1, I1, rfl, q1⟩
theorem je_and (ha : JE X a ta) (hb : JE X (.BoolOp .And (b :: rest) pos) tb) : JE X (.BoolOp .And (a :: b :: rest) pos) (tAndV ta tb) := .of (pe_and ha.to hb.to)
end
end L2
namespace L2
open PySem PySem.Spec PyProof.Rows
def SqL (K : PySem.W.Frag) (H : Hp) (a : Addr) (xs : List V) : Prop :=
  Rd H a (.lst xs) ∨
    ∃ (o : Obj) (its : Array Value) (n : Nat), K.lookup a = some o ∧ o.cls = .type "list" ∧ o.dict = none ∧ o.data = .seq its n ∧ its.size ≤ sizeLine ∧ Vals xs its.toList
def SqT (K : PySem.W.Frag) (H : Hp) (a : Addr) (xs : List V) : Prop :=
  Rd H a (.tup xs) ∨
    ∃ (o : Obj) (its : Array Value) (n : Nat), K.lookup a = some o ∧ o.cls = .type "tuple" ∧ o.data = .seq its n ∧ its.size ≤ sizeLine ∧ Vals xs its.toList
def absV : Value → Option V
  | .none => some .non
  | .bool b => some (.bl b)
  | .int i _ => some (.int i)
  | .str x _ => some (.str x)
  | .bytes b _ => some (.byt b)
  | .float b _ => some (.flt b)
  | .ref a => some (.ref a)
  | .type n => some (.ty n)
  | _ => none
theorem RelV.abs {x : V} {u : Value} (r : RelV x u) : absV u = some x := by
  cases x with
  | non => cases r; rfl
  | bl _ => cases r; rfl
  | int _ => obtain ⟨t, rfl⟩ := r; rfl
  | str _ => obtain ⟨t, rfl⟩ := r; rfl
  | byt _ => obtain ⟨t, rfl⟩ := r; rfl
  | flt _ => obtain ⟨t, rfl⟩ := r; rfl
  | ref _ => cases r; rfl
  | ty _ => cases r; rfl
theorem RelV.inj {x y : V} {u : Value} (r : RelV x u) (q : RelV y u) : x = y := Option.some.inj (r.abs.symm.trans q.abs)
theorem Vals.inj : ∀ {xs ys : List V} {us : List Value}, Vals xs us → Vals ys us → xs = ys
  | _, _, _, .nil, .nil => rfl
  | _, _, _, .cons r t, .cons r' t' => by rw [r.inj r', Vals.inj t t']
section
variable {X : Cx} {pins : List (Addr × Obj)} {σ : St} {H : Hp} {s : Shared} {a : Addr} {xs ys : List V}
theorem SqL.of {K : PySem.W.Frag} (h : H a = some (.lst xs)) : SqL K H a xs := .inl (.inl h)
theorem SqT.of {K : PySem.W.Frag} (h : H a = some (.tup xs)) : SqT K H a xs := .inl (.inl h)
theorem Inv.list (I : Inv X pins σ H s) (h : SqL X.K H a xs) : ∃ its : List Value, Vals xs its ∧ PlainL s.heap a its.toArray ∧ xs.length ≤ sizeLine := by
  rcases h with h | ⟨o, its, n, hk, hc, hd, hs, hz, r⟩
  · obtain ⟨z, its, n, r, e⟩ := h.ok I.hok
    exact ⟨its, r, ⟨_, n, e, rfl, rfl, rfl⟩, z⟩
  · refine ⟨its.toList, r, ⟨o, n, I.kIn a o hk, hc, hd, by simpa using hs⟩, ?_⟩
    have e := r.length
    simp only [Array.length_toList] at e
    omega
theorem Inv.tuple (I : Inv X pins σ H s) (h : SqT X.K H a xs) : ∃ its : List Value, Vals xs its ∧ IsTup s.heap a its.toArray ∧ xs.length ≤ sizeLine := by
  rcases h with h | ⟨o, its, n, hk, hc, hs, hz, r⟩
  · obtain ⟨z, its, r, p⟩ := h.ok I.hok
    exact ⟨its, r, p, z⟩
  · refine ⟨its.toList, r, ⟨o, I.kIn a o hk, hc, n, by simpa using hs⟩, ?_⟩
    have e := r.length
    simp only [Array.length_toList] at e
    omega
theorem Inv.list_inj (I : Inv X pins σ H s) (h : SqL X.K H a xs) (h' : SqL X.K H a ys) : xs = ys := by
  obtain ⟨its, r, ⟨o, n, e, _, _, d⟩, _⟩ := I.list h
  obtain ⟨its', r', ⟨o', n', e', _, _, d'⟩, _⟩ := I.list h'
  rw [e] at e'; cases e'
  rw [d] at d'
  injection d' with d1 _
  have : its = its' := by simpa using congrArg Array.toList d1
  subst this
  exact r.inj r'
theorem Inv.tuple_inj (I : Inv X pins σ H s) (h : SqT X.K H a xs) (h' : SqT X.K H a ys) : xs = ys := by
  obtain ⟨its, r, ⟨o, e, _, n, d⟩, _⟩ := I.tuple h
  obtain ⟨its', r', ⟨o', e', _, n', d'⟩, _⟩ := I.tuple h'
  rw [e] at e'; cases e'
  rw [d] at d'
  injection d' with d1 _
  have : its = its' := by simpa using congrArg Array.toList d1
  subst this
  exact r.inj r'
end
abbrev Cx.wish (X : Cx) (E : Value → Shared → Prop) : Cx := { X with xe := E }
abbrev Cx.nox (X : Cx) : Cx := X.wish fun _ _ => False
theorem Cx.Ok.wish {X : Cx} (ok : X.Ok) (E : Value → Shared → Prop) : (X.wish E).Ok :=
  ⟨ok.mod, ok.kind, ok.glob, ok.blt, ok.above, ok.inj, ok.has, ok.cab, ok.hd, ok.frames, ok.stk, ok.exf, ok.bs, ok.bsz, ok.noex, ok.exfs, ok.funs, ok.frf⟩
theorem Cx.Ok.unwish {X : Cx} {E : Value → Shared → Prop} (ok : (X.wish E).Ok) : X.Ok :=
  ⟨ok.mod, ok.kind, ok.glob, ok.blt, ok.above, ok.inj, ok.has, ok.cab, ok.hd, ok.frames, ok.stk, ok.exf, ok.bs, ok.bsz, ok.noex, ok.exfs, ok.funs, ok.frf⟩
section
variable {X : Cx} {pins : List (Addr × Obj)} {σ : St} {H : Hp} {s : Shared} {E : Value → Shared → Prop}
theorem Inv.wish (I : Inv X pins σ H s) (E : Value → Shared → Prop) : Inv (X.wish E) pins σ H s := ⟨I.ok.wish E, I.os, I.bare, I.base, I.loc, I.cell, I.free, I.freeC, I.pin, I.hok, I.len⟩
theorem Inv.unwish (I : Inv (X.wish E) pins σ H s) : Inv X pins σ H s := ⟨I.ok.unwish, I.os, I.bare, I.base, I.loc, I.cell, I.free, I.freeC, I.pin, I.hok, I.len⟩
theorem SP.unwish {D : Ends} {f : Flow} {s' : Shared} (h : SP (X.wish E) pins D f s') : SP X pins D f s' := by
  cases f with
  | next => obtain ⟨σ', H', I, q⟩ := h; exact ⟨σ', H', I.unwish, q⟩
  | brk => obtain ⟨σ', H', I, q⟩ := h; exact ⟨σ', H', I.unwish, q⟩
  | cont => obtain ⟨σ', H', I, q⟩ := h; exact ⟨σ', H', I.unwish, q⟩
  | ret u => obtain ⟨v, σ', H', I, r, q⟩ := h; exact ⟨v, σ', H', I.unwish, r, q⟩
theorem PE.nox {e : Expr} {t : TE} (h : PE X.nox e t) : PE X e t := fun pins s σ H Q I hw =>
  wpAny_mono (h pins s σ H Q (I.wish _) hw) (fun _ _ ⟨v, H', I', r, q⟩ => ⟨v, H', I'.unwish, r, q⟩) fun _ _ z => False.elim z
theorem PT.nox {e : Expr} {t : TT} (h : PT X.nox e t) : PT X e t := fun pins s σ H Q I hw =>
  wpAny_mono (h pins s σ H Q (I.wish _) hw) (fun _ _ ⟨H', I', q⟩ => ⟨H', I'.unwish, q⟩) fun _ _ z => False.elim z
theorem PSs.nox {st : List Stmt} {t : TS} (h : PSs X.nox st t) : PSs X st t := fun pins s σ H D I hw =>
  wpAny_mono (h pins s σ H D (I.wish _) hw) (fun _ _ q => q.unwish) fun _ _ z => False.elim z
end
section
variable {X : Cx} {st : Stmt} {rest : List Stmt} {t u : TS} {e : Expr} {te : TE} {pos : Pos}
def tNext : TS := fun D σ H => D.nx σ H
def tSeq (t u : TS) : TS := fun D σ H => t { D with nx := u D } σ H
theorem pss_nil : PSs X [] tNext := fun _ _ σ H _ I h => wpAny_execs_nil ⟨σ, H, I, h⟩
theorem jss_nil  : JSs X [] tNext := .of (pss_nil )
theorem pss_cons (h1 : PS X st t) (h2 : PSs X rest u) : PSs X (st :: rest) (tSeq t u) := by
  intro pins s σ H D I h
  refine wpAny_execs_cons (thn (h1 pins s σ H { D with nx := u D } I h) fun f s1 q => ?_)
  cases f with
  | next =>
    obtain ⟨σ', H', I', q⟩ := q
    exact h2 pins s1 σ' H' D I' q
  | ret v => exact q
  | brk => exact q
  | cont => exact q
theorem jss_cons (h1 : JS X st t) (h2 : JSs X rest u) : JSs X (st :: rest) (tSeq t u) := .of (pss_cons h1.to h2.to)
theorem pss_one (h1 : PS X st t) : PSs X [st] t := by
  intro pins s σ H D I h
  refine wpAny_execs_cons (thn (h1 pins s σ H D I h) fun f s1 q => ?_)
  cases f with
  | next => exact wpAny_execs_nil q
  | ret v => exact q
  | brk => exact q
  | cont => exact q
theorem jss_one (h1 : JS X st t) : JSs X [st] t := .of (pss_one h1.to)
theorem Inv.quiet {pins : List (Addr × Obj)} {σ : St} {H : Hp} {s : Shared} (I : Inv X pins σ H s) : interactive X.env = false := by simp [interactive, I.ok.kind]
def tDrop (te : TE) : TS := fun D σ H => te σ H fun _ H1 => D.nx σ H1
theorem ps_expr (he : PE X e te) (hs : swapsWith e none pos.line X.env = pure false := by rfl) : PS X (.Expr e pos) (tDrop te) := by
  intro pins s σ H D I h
  exact wpAny_Expr_any (thn (he pins s σ H _ I h) fun v s1 ⟨x, H1, I1, r1, q1⟩ => ⟨σ, H1, I1, q1⟩) I.quiet hs
theorem js_expr (he : JE X e te) (hs : swapsWith e none pos.line X.env = pure false := by rfl) : JS X (.Expr e pos) (tDrop te) := .of (ps_expr he.to hs)
def tRet (te : TE) : TS := fun D σ H => te σ H D.rt
theorem ps_ret (he : PE X e te) : PS X (.Return (some e) pos) (tRet te) := by
  intro pins s σ H D I h
  exact wpAny_Return_some (thn (he pins s σ H _ I h) fun v s1 ⟨x, H1, I1, r1, q1⟩ => ⟨x, σ, H1, I1, r1, q1⟩)
theorem js_ret (he : JE X e te) : JS X (.Return (some e) pos) (tRet te) := .of (ps_ret he.to)
def tIfS (c : TT) (t u : TS) : TS := fun D σ H => c σ H fun b H1 => if b = true then t D σ H1 else u D σ H1
theorem ps_if {c : Expr} {a b : List Stmt} {tc : TT} (hc : PT X c tc) (ha : PSs X a t) (hb : PSs X b u) : PS X (.If c a b pos) (tIfS tc t u) := by
  intro pins s σ H D I h
  refine wpAny_If (thn (hc pins s σ H _ I h) fun d s1 ⟨H1, I1, q1⟩ => ?_)
  cases d with
  | true => exact ha pins s1 σ H1 D I1 q1
  | false => exact hb pins s1 σ H1 D I1 q1
theorem js_if {c : Expr} {a b : List Stmt} {tc : TT} (hc : JT X c tc) (ha : JSs X a t) (hb : JSs X b u) : JS X (.If c a b pos) (tIfS tc t u) := .of (ps_if hc.to ha.to hb.to)
def tNever : TS := fun _ _ _ => False
theorem pss_never {sts : List Stmt} : PSs X sts tNever := fun _ _ _ _ _ _ h => h.elim
theorem jss_never {sts : List Stmt} : JSs X sts tNever := .of (pss_never )
end
abbrev TG := V → St → Hp → (St → Hp → Prop) → Prop
abbrev TGs := List V → St → Hp → (St → Hp → Prop) → Prop
def PG (X : Cx) (target : Expr) (t : TG) : Prop :=
  ∀ (pins : List (Addr × Obj)) (s : Shared) (σ : St) (H : Hp) (v : V) (u : Value) (Q : St → Hp → Prop), Inv X pins σ H s → RelV v u → t v σ H Q →
    wpAny (model X.prog X.w) X.A (assign target X.env u) (fun _ s' => ∃ σ' H', Inv X pins σ' H' s' ∧ Q σ' H') X.xe s
@[irreducible] def JG (X : Cx) (target : Expr) (t : TG) : Prop := PG X target t
theorem JG.of {X : Cx} {target : Expr} {t : TG} (h : PG X target t) : JG X target t := by unfold JG; exact h
theorem JG.to {X : Cx} {target : Expr} {t : TG} (h : JG X target t) : PG X target t := by unfold JG at h; exact h
def PGs (X : Cx) (ts : List Expr) (t : TGs) : Prop :=
  ∀ (pins : List (Addr × Obj)) (s : Shared) (σ : St) (H : Hp) (vs : List V) (us : List Value) (Q : St → Hp → Prop), Inv X pins σ H s → Vals vs us → t vs σ H Q →
    wpAny (model X.prog X.w) X.A (assignInOrder ((assignEach ts X.env).map (·.2)) us) (fun _ s' => ∃ σ' H', Inv X pins σ' H' s' ∧ Q σ' H') X.xe s
@[irreducible] def JGs (X : Cx) (ts : List Expr) (t : TGs) : Prop := PGs X ts t
theorem JGs.of {X : Cx} {ts : List Expr} {t : TGs} (h : PGs X ts t) : JGs X ts t := by unfold JGs; exact h
theorem JGs.to {X : Cx} {ts : List Expr} {t : TGs} (h : JGs X ts t) : PGs X ts t := by unfold JGs at h; exact h
abbrev TSet := V → V → V → Hp → (Hp → Prop) → Prop
def PSet (X : Cx) (t : TSet) : Prop :=
  ∀ (pins : List (Addr × Obj)) (s : Shared) (σ : St) (H : Hp) (o i v : V) (ov iv u : Value) (Q : Hp → Prop), Inv X pins σ H s → RelV o ov → RelV i iv → RelV v u → t o i v H Q →
    wpAny (model X.prog X.w) X.A (setItem ov iv u) (fun _ s' => ∃ H', Inv X pins σ H' s' ∧ Q H') X.xe s
section
variable {X : Cx} {pos : Pos}
def gName (i : Nat) : TG := fun v σ H Q => Q (σ.set i (some v)) H
theorem pg_name {i : Nat} {x : Str} (hN : X.N.Nodup) (hi : X.N[i]? = some x) (hx : Loc X.env.scope x) (hf : X.fn x = true ∨ X.env.scope.names.lookup x = some .local := by first | exact .inl rfl | exact .inr rfl | assumption) : PG X (.Name x pos) (gName i) := by
  intro pins s σ H v u Q I r h
  exact wpAny_assign_Name (store_ok I hN hi hx r (fun s' I' => ⟨_, H, I', h⟩) hf)
theorem jg_name {i : Nat} {x : Str} (hN : X.N.Nodup) (hi : X.N[i]? = some x) (hx : Loc X.env.scope x) (hf : X.fn x = true ∨ X.env.scope.names.lookup x = some .local := by first | exact .inl rfl | exact .inr rfl | assumption) : JG X (.Name x pos) (gName i) := .of (pg_name hN hi hx hf)
def gNil : TGs := fun vs σ H Q => vs = [] ∧ Q σ H
def gCons (t : TG) (u : TGs) : TGs := fun vs σ H Q => ∃ v r, vs = v :: r ∧ t v σ H fun σ' H' => u r σ' H' Q
theorem pgs_nil : PGs X [] gNil := by
  intro pins s σ H vs us Q I r h
  obtain ⟨e, h⟩ := h
  subst e
  cases r
  exact assignInOrder_nil ⟨σ, H, I, h⟩
theorem jgs_nil  : JGs X [] gNil := .of (pgs_nil )
theorem pgs_cons {e : Expr} {es : List Expr} {t : TG} {u : TGs} (h1 : PG X e t) (h2 : PGs X es u)
    (hs : (assignEach (e :: es) X.env).map (·.2) = assign e X.env :: (assignEach es X.env).map (·.2) := by rfl) : PGs X (e :: es) (gCons t u) := by
  intro pins s σ H vs us Q I r h
  obtain ⟨v, vr, e1, h⟩ := h
  subst e1
  cases r with
  | cons r rr =>
    rw [hs]
    refine assignInOrder_cons (thn (h1 pins s σ H _ _ _ I r h) fun _ s1 ⟨σ1, H1, I1, q1⟩ => ?_)
    exact h2 pins s1 σ1 H1 _ _ Q I1 rr q1
theorem jgs_cons {e : Expr} {es : List Expr} {t : TG} {u : TGs} (h1 : JG X e t) (h2 : JGs X es u) (hs : (assignEach (e :: es) X.env).map (·.2) = assign e X.env :: (assignEach es X.env).map (·.2) := by rfl) : JGs X (e :: es) (gCons t u) := .of (pgs_cons h1.to h2.to hs)
def gTup (K : PySem.W.Frag) (n : Nat) (t : TGs) : TG := fun v σ H Q => ∃ a xs, v = .ref a ∧ SqT K H a xs ∧ xs.length = n ∧ t xs σ H Q
theorem pg_tup {es : List Expr} {k : Nat} {t : TGs} {n : Nat} (hc : X.calm = true) (h : PGs X es t)
    (hn : (assignEach es X.env).length = n := by rfl) (hst : (assignEach es X.env).findIdx? (·.1) = none := by rfl) : PG X (.Tuple es k pos) (gTup X.K n t) := by
  intro pins s σ H v u Q I r hw
  obtain ⟨a, xs, e1, hq, hl, hw⟩ := hw
  subst e1
  cases r
  obtain ⟨its, rv, ht, hz⟩ := I.tuple hq
  refine assign_Tuple_tuple (I.ok.hd hc) ht (by simp [hn, ← hl, rv.length]) hst fun h' hx => ?_
  have I1 : Inv X pins σ H { s with heap := h' } := I.kept (t' := s.toks) fun b o e => hx b o (Nat.ne_of_lt (Heap.lt_size e)) e
  exact h pins _ σ H xs _ Q I1 (by simpa using rv) hw
theorem jg_tup {es : List Expr} {k : Nat} {t : TGs} {n : Nat} (hc : X.calm = true) (h : JGs X es t) (hn : (assignEach es X.env).length = n := by rfl) (hst : (assignEach es X.env).findIdx? (·.1) = none := by rfl) : JG X (.Tuple es k pos) (gTup X.K n t) := .of (pg_tup hc h.to hn hst)
def gSub (to ti : TE) (t : TSet) : TG := fun v σ H Q => to σ H fun o H1 => ti σ H1 fun i H2 => t o i v H2 fun H3 => Q σ H3
theorem pg_sub {o i : Expr} {to ti : TE} {t : TSet} (ho : PE X o to) (hi : PE X i ti) (hs : PSet X t)
    (ha : ∀ v, assign (.Subscript o i pos) X.env v = (do
      let ov ← holding [v] (eval o X.env)
      let iv ← holding [v, ov] (eval i X.env)
      standAt pos
      holding [v, ov, iv] (setItem ov iv v)
      release [v, ov, iv] []) := by intro _; rfl) : PG X (.Subscript o i pos) (gSub to ti t) := by
  intro pins s σ H v u Q I r h
  rw [ha]
  refine wpAny_bind (wpAny_holding (thn (ho pins s σ H _ I h) fun ov s1 ⟨x, H1, I1, r1, q1⟩ => ?_))
  refine wpAny_bind (wpAny_holding (thn (hi pins s1 σ H1 _ I1 q1) fun iv s2 ⟨y, H2, I2, r2, q2⟩ => ?_))
  refine wpAny_bind (wpAny_standAt (wpAny_bind (wpAny_holding (thn (hs pins s2 σ H2 x y v ov iv u _ I2 r1 r2 r q2) fun _ s3 ⟨H3, I3, q3⟩ => ?_))))
  exact wpAny_release ⟨σ, H3, I3, q3⟩
theorem jg_sub {o i : Expr} {to ti : TE} {t : TSet} (ho : JE X o to) (hi : JE X i ti) (hs : PSet X t) (ha : ∀ v, assign (.Subscript o i pos) X.env v = (do
      let ov ← holding [v] (eval o X.env)
      let iv ← holding [v, ov] (eval i X.env)
      standAt pos
      holding [v, ov, iv] (setItem ov iv v)
      release [v, ov, iv] []) := by intro _; rfl) : JG X (.Subscript o i pos) (gSub to ti t) := .of (pg_sub ho.to hi.to hs ha)
def tAsg (te : TE) (g : TG) : TS := fun D σ H => te σ H fun x H1 => g x σ H1 D.nx
theorem ps_asg {tg e : Expr} {te : TE} {g : TG} (he : PE X e te) (hg : PG X tg g) (hs : swapsWithSole [tg] e pos.line X.env = pure false := by rfl) (hw : swappedStores [tg] e X.env = pure none := by rfl)
    (h1 : (assignEach [tg] X.env).map (·.2) = [assign tg X.env] := by rfl) : PS X (.Assign [tg] e pos) (tAsg te g) := by
  intro pins s σ H D I h
  refine wpAny_Assign_stores (thn (he pins s σ H _ I h) fun v s1 ⟨x, H1, I1, r1, q1⟩ => ?_) hs hw
  rw [h1]
  exact thn (hg pins s1 σ H1 x v _ I1 r1 q1) fun _ s2 q => q
theorem js_asg {tg e : Expr} {te : TE} {g : TG} (he : JE X e te) (hg : JG X tg g) (hs : swapsWithSole [tg] e pos.line X.env = pure false := by rfl) (hw : swappedStores [tg] e X.env = pure none := by rfl) (h1 : (assignEach [tg] X.env).map (·.2) = [assign tg X.env] := by rfl) : JS X (.Assign [tg] e pos) (tAsg te g) := .of (ps_asg he.to hg.to hs hw h1)
theorem ps_set {i : Nat} {x : Str} {e : Expr} {te : TE} {pos' : Pos} (hN : X.N.Nodup) (hi : X.N[i]? = some x) (hx : Loc X.env.scope x) (he : PE X e te) (hs : swapsWith e (some (.Name x pos')) pos.line X.env = pure false := by rfl) (hf : X.fn x = true ∨ X.env.scope.names.lookup x = some .local := by first | exact .inl rfl | exact .inr rfl | assumption) :
    PS X (.Assign [.Name x pos'] e pos) (tAsg te (gName i)) := by
  intro pins s σ H D I h
  refine wpAny_Assign_Name (thn (he pins s σ H _ I h) fun v s1 ⟨y, H1, I1, r1, q1⟩ => ?_) hs
  exact store_ok I1 hN hi hx r1 (fun s2 I2 => ⟨_, H1, I2, q1⟩) hf
theorem js_set {i : Nat} {x : Str} {e : Expr} {te : TE} {pos' : Pos} (hN : X.N.Nodup) (hi : X.N[i]? = some x) (hx : Loc X.env.scope x) (he : JE X e te) (hs : swapsWith e (some (.Name x pos')) pos.line X.env = pure false := by rfl) (hf : X.fn x = true ∨ X.env.scope.names.lookup x = some .local := by first | exact .inl rfl | exact .inr rfl | assumption) : JS X (.Assign [.Name x pos'] e pos) (tAsg te (gName i)) := .of (ps_set hN hi hx he.to hs hf)
end
section
variable {X : Cx} {pos : Pos}
def tWhile (c : TT) (tb : TS) : TS := fun D σ H => ∃ W : Nat → St → Hp → Prop, (∃ m, W m σ H) ∧ ∀ m σ H, W m σ H →
  c σ H fun b H1 => if b = true then ∃ N : St → Hp → Prop, (∀ σ' H', N σ' H' → ∃ m', m' < m ∧ W m' σ' H') ∧ tb { D with nx := N, ct := N, bk := D.nx } σ H1 else D.nx σ H1
theorem ps_while {c : Expr} {body : List Stmt} {tc : TT} {tb : TS} (hp : PassesOwn (model X.prog X.w) X.A X.env X.xe) (hc : PT X c tc) (hb : PSs X body tb) : PS X (.While c body [] pos) (tWhile tc tb) := by
  intro pins s σ H D I h
  obtain ⟨W, ⟨m0, w0⟩, turn⟩ := h
  refine wpAny_While (codeAny_whileLoop (fun n s' => ∃ σ' H', Inv X pins σ' H' s' ∧ W n σ' H') ?_ m0 ⟨σ, H, I, w0⟩)
  rintro n s1 ⟨σ1, H1, I1, w1⟩
  refine wpAny_passesOwn hp (thn (hc pins s1 σ1 H1 _ I1 (turn n σ1 H1 w1)) fun b s2 ⟨H2, I2, q2⟩ => ?_)
  cases b with
  | true =>
    obtain ⟨N, hN, q2⟩ := q2
    rw [if_pos rfl]
    refine wpAny_passesOwn hp (thn (hb pins s2 σ1 H2 _ I2 q2) fun f s3 q3 => ?_)
    cases f with
    | next =>
      obtain ⟨σ3, H3, I3, n3⟩ := q3
      obtain ⟨m', hm, w3⟩ := hN σ3 H3 n3
      exact ⟨m', hm, σ3, H3, I3, w3⟩
    | cont =>
      obtain ⟨σ3, H3, I3, n3⟩ := q3
      obtain ⟨m', hm, w3⟩ := hN σ3 H3 n3
      exact ⟨m', hm, σ3, H3, I3, w3⟩
    | brk => exact q3
    | ret v => exact q3
  | false =>
    rw [if_neg Bool.false_ne_true]
    exact wpAny_execs_nil ⟨σ1, H2, I2, q2⟩
theorem js_while {c : Expr} {body : List Stmt} {tc : TT} {tb : TS} (hp : PassesOwn (model X.prog X.w) X.A X.env X.xe) (hc : JT X c tc) (hb : JSs X body tb) : JS X (.While c body [] pos) (tWhile tc tb) := .of (ps_while hp hc.to hb.to)
end
structure It where
  go : Nat → Hp → Prop
  yld : Nat → Hp → V → Hp → Prop
  stop : Nat → Hp → Prop
def FpOk (X : Cx) (pins : List (Addr × Obj)) (H : Hp) (b : Addr) : Prop :=
  H b = none ∧ b ≠ X.env.locals ∧ b ∉ X.fs ∧ (b ∈ X.ex ∨ X.s₀.heap.objs.size ≤ b) ∧ (∀ x c, X.env.cells.lookup x = some c → c ≠ b) ∧ ∀ p ∈ X.pn ++ pins, p.1 ≠ b
theorem Inv.fpOk {X : Cx} {pins : List (Addr × Obj)} {σ : St} {H H' : Hp} {s : Shared} {b : Addr} (I : Inv X pins σ H s) (hb : s.heap.objs.size ≤ b) (hn : H' b = none) : FpOk X pins H' b := by
  refine ⟨hn, Nat.ne_of_gt (Nat.lt_of_lt_of_le I.lt hb), I.nofs hb, .inr (Nat.le_trans I.sz hb), fun x c e z => ?_, fun p hp z => ?_⟩
  · obtain ⟨v, q⟩ := I.cell x c e
    exact absurd (Nat.lt_of_lt_of_le q.lt (by rw [z]; exact hb)) (Nat.lt_irrefl _)
  · exact absurd (Nat.lt_of_lt_of_le (Heap.lt_size (I.pin p hp).1) (by rw [z]; exact hb)) (Nat.lt_irrefl _)
structure Turn (P : Program) (w : World) (K : PySem.W.Frag) (tg : Expr) (J : It) (fp : List Addr) (it : Addr) (tn : Nat → Heap → Prop) : Prop where
  mem : it ∈ fp
  obj : ∀ i h, tn i h → ∀ b ∈ fp, ∃ o, h.get? b = some o ∧ ∀ v, o.data ≠ .cell v
  keep : ∀ i h h', tn i h → (∀ b ∈ fp, ∀ o, h.get? b = some o → h'.get? b = some o) → tn i h'
  item : ∀ (X : Cx), X.prog = P → X.w = w → X.K = K → X.calm = true → ∀ (i : Nat) (pins : List (Addr × Obj)) (s : Shared) (σ : St) (H : Hp) (E : Value → Shared → Prop), Inv X pins σ H s → (∀ b ∈ fp, FpOk X pins H b) → tn i s.heap → J.go i H →
    wpAny (model P w) X.A (pyNext (.ref it)) (fun r s1 => ∃ u, r = some u ∧
      wpAny (model P w) X.A (letOwnedTupleGo tg (.ref it) u) (fun _ s2 => ∃ x H', Inv X pins σ H' s2 ∧ RelV x u ∧ J.yld i H x H' ∧ tn (i + 1) s2.heap ∧ ∀ b ∈ fp, H' b = none) E s1) E s
  done : ∀ (X : Cx), X.prog = P → X.w = w → X.K = K → X.calm = true → ∀ (i : Nat) (pins : List (Addr × Obj)) (s : Shared) (σ : St) (H : Hp) (E : Value → Shared → Prop), Inv X pins σ H s → (∀ b ∈ fp, FpOk X pins H b) → tn i s.heap → J.stop i H →
    wpAny (model P w) X.A (pyNext (.ref it)) (fun r s1 => r = none ∧ Inv X pins σ H s1) E s
  self : ∀ (A : Around) (i : Nat) (s : Shared) (Q : Value → Shared → Prop) (E : Value → Shared → Prop), tn i s.heap → Q (.ref it) s → wpAny (model P w) A (pyIter (.ref it)) Q E s
abbrev TI := St → Hp → (It → Hp → Prop) → Prop
def PIE (X : Cx) (pins : List (Addr × Obj)) (σ : St) (tg : Expr) (R : It → Hp → Prop) (itv : Value) (s2 : Shared) : Prop :=
  ∃ (it : Addr) (fp : List Addr) (tn : Nat → Heap → Prop) (J : It) (H' : Hp), itv = .ref it ∧ Inv X pins σ H' s2 ∧ Turn X.prog X.w X.K tg J fp it tn ∧ tn 0 s2.heap ∧ (∀ b ∈ fp, FpOk X pins H' b) ∧ R J H'
def PI (X : Cx) (tg iter : Expr) (wi : TI) : Prop :=
  ∀ (pins : List (Addr × Obj)) (s : Shared) (σ : St) (H : Hp) (R : It → Hp → Prop), Inv X pins σ H s → wi σ H R →
    wpAny (model X.prog X.w) X.A (eval iter X.env) (fun v s1 => wpAny (model X.prog X.w) X.A (pyIter v) (PIE X pins σ tg R) X.xe s1) X.xe s
@[irreducible] def JI (X : Cx) (tg iter : Expr) (wi : TI) : Prop := PI X tg iter wi
theorem JI.of {X : Cx} {tg iter : Expr} {wi : TI} (h : PI X tg iter wi) : JI X tg iter wi := by unfold JI; exact h
theorem JI.to {X : Cx} {tg iter : Expr} {wi : TI} (h : JI X tg iter wi) : PI X tg iter wi := by unfold JI at h; exact h
theorem go_of {M : Model} {A : Around} {E : Value → Shared → Prop} {s : Shared} {tg : Expr} {it : Addr} {u : Value} {o : Obj} {n : String} {vs : Array Value} {Q : Unit → Shared → Prop} (ho : s.heap.get? it = some o) (hc : o.cls = .type n) (hd : o.data = .fields vs)
    (hn : ["enumerate", "zip", "dict_itemiterator", "dict_reverseitemiterator", "odict_iterator", "itertools.zip_longest", "itertools.pairwise"].contains n = false) (hQ : Q () s) : wpAny M A (letOwnedTupleGo tg (.ref it) u) Q E s := by
  unfold letOwnedTupleGo
  cases tg <;> first
    | exact wpAny_pure hQ
    | (cases u <;> first
        | exact wpAny_pure hQ
        | (refine wpAny_bind (wpAny_load ho ?_)
           rw [hc, hd]
           show wpAny M A (if (["enumerate", "zip", "dict_itemiterator", "dict_reverseitemiterator", "odict_iterator", "itertools.zip_longest", "itertools.pairwise"].contains n && vs[0]? == some (rawInt _)) = true then _ else _) Q E s
           rw [if_neg (by intro h; rw [hn, Bool.false_and] at h; cases h)]
           exact wpAny_pure hQ))
def Itl (K : PySem.W.Frag) (a : Addr) : It :=
  ⟨fun i H => ∃ xs x, SqL K H a xs ∧ xs[i]? = some x, fun i H x H' => H' = H ∧ ∀ xs, SqL K H a xs → xs[i]? = some x, fun i H => ∃ xs, SqL K H a xs ∧ xs.length ≤ i⟩
def Itt (K : PySem.W.Frag) (a : Addr) : It :=
  ⟨fun i H => ∃ xs x, SqT K H a xs ∧ xs[i]? = some x, fun i H x H' => H' = H ∧ ∀ xs, SqT K H a xs → xs[i]? = some x, fun i H => ∃ xs, SqT K H a xs ∧ xs.length ≤ i⟩
def Itr (lo : Int) (n : Nat) : It := ⟨fun i _ => i < n, fun i H x H' => H' = H ∧ x = .int (lo + i), fun i _ => n ≤ i⟩
theorem turn_list {P : Program} {w : World} {K : PySem.W.Frag} {tg : Expr} (a it : Addr) : Turn P w K tg (Itl K a) [it] it (fun i h => h.IsListIter it a i) where
  mem := by simp
  obj := fun i h st b hb => by
    have e : b = it := by simpa using hb
    subst e
    obtain ⟨o, e, c, d⟩ := st
    exact ⟨o, e, fun v z => by rw [d] at z; cases z⟩
  keep := fun i h h' st k => st.at fun o e => k it (by simp) o e
  item := by
    intro X hP hw hK hc i pins s σ H E I hf st hg
    subst hP hw hK
    obtain ⟨xs, x, hq, hx⟩ := hg
    obtain ⟨its, rv, p, hz⟩ := I.list hq
    obtain ⟨u, hu, ru⟩ := rv.get hx
    obtain ⟨f0, f1, f2, f3, f4, f5⟩ := hf it (by simp)
    refine wpAny_pyNext_list_item st p.isList (x := u) (by simpa using hu) fun h' st' sb => ?_
    have I1 : Inv X pins σ H { s with heap := h' } := I.turned (t' := s.toks) (fun b o hb e => (sb.2 b hb).trans e) f0 f1 f3 f4 f5
    obtain ⟨o, e, c, d⟩ := id st'
    exact ⟨u, rfl, go_of (s := { s with heap := h' }) e c d (by decide) ⟨x, H, I1, ru, ⟨rfl, fun ys hy => by rw [I.list_inj hy hq]; exact hx⟩, st', fun b hb => (hf b hb).1⟩⟩
  done := by
    intro X hP hw hK hc i pins s σ H E I hf st hg
    subst hP hw hK
    obtain ⟨xs, hq, hx⟩ := hg
    obtain ⟨its, rv, p, hz⟩ := I.list hq
    obtain ⟨f0, f1, f2, f3, f4, f5⟩ := hf it (by simp)
    have hl := rv.length
    exact wpAny_pyNext_list_end (I.ok.hd hc) st p.isList (by simp; omega) fun h' eb => ⟨rfl, I.turned (t' := s.toks) (fun b o hb e => eb b o hb e) f0 f1 f3 f4 f5⟩
  self := fun _ _ _ _ _ st h => wpAny_pyIter_listiter st h
theorem turn_tuple {P : Program} {w : World} {K : PySem.W.Frag} {tg : Expr} (a it : Addr) : Turn P w K tg (Itt K a) [it] it (fun i h => h.IsTupleIter it a i) where
  mem := by simp
  obj := fun i h st b hb => by
    have e : b = it := by simpa using hb
    subst e
    obtain ⟨o, e, c, d⟩ := st
    exact ⟨o, e, fun v z => by rw [d] at z; cases z⟩
  keep := fun i h h' st k => st.at fun o e => k it (by simp) o e
  item := by
    intro X hP hw hK hc i pins s σ H E I hf st hg
    subst hP hw hK
    obtain ⟨xs, x, hq, hx⟩ := hg
    obtain ⟨its, rv, p, hz⟩ := I.tuple hq
    obtain ⟨u, hu, ru⟩ := rv.get hx
    obtain ⟨f0, f1, f2, f3, f4, f5⟩ := hf it (by simp)
    refine wpAny_pyNext_tuple_item st (show s.heap.IsTuple a its.toArray from p) (x := u) (by simpa using hu) fun h' st' sb => ?_
    have I1 : Inv X pins σ H { s with heap := h' } := I.turned (t' := s.toks) (fun b o hb e => (sb.2 b hb).trans e) f0 f1 f3 f4 f5
    obtain ⟨o, e, c, d⟩ := id st'
    exact ⟨u, rfl, go_of (s := { s with heap := h' }) e c d (by decide) ⟨x, H, I1, ru, ⟨rfl, fun ys hy => by rw [I.tuple_inj hy hq]; exact hx⟩, st', fun b hb => (hf b hb).1⟩⟩
  done := by
    intro X hP hw hK hc i pins s σ H E I hf st hg
    subst hP hw hK
    obtain ⟨xs, hq, hx⟩ := hg
    obtain ⟨its, rv, p, hz⟩ := I.tuple hq
    obtain ⟨f0, f1, f2, f3, f4, f5⟩ := hf it (by simp)
    have hl := rv.length
    exact wpAny_pyNext_tuple_end (I.ok.hd hc) st (show s.heap.IsTuple a its.toArray from p) (by simp; omega) fun h' eb => ⟨rfl, I.turned (t' := s.toks) (fun b o hb e => eb b o hb e) f0 f1 f3 f4 f5⟩
  self := fun _ _ _ _ _ st h => wpAny_pyIter_tupleiter st h
theorem turn_range {P : Program} {w : World} {K : PySem.W.Frag} {tg : Expr} (it : Addr) (lo : Int) (n : Nat) : Turn P w K tg (Itr lo n) [it] it (fun i h => IsRangeIter h it (lo + (i : Nat) * 1) ((n : Int) - (i : Nat)) 1) where
  mem := by simp
  obj := fun i h st b hb => by
    have e : b = it := by simpa using hb
    subst e
    exact ⟨_, st, fun v z => by
      have z' : Data.fields _ = Data.cell v := z
      cases z'⟩
  keep := fun i h h' st k => k it (by simp) _ st
  item := by
    intro X hP hw hK hc i pins s σ H E I hf st hg
    subst hP hw hK
    obtain ⟨f0, f1, f2, f3, f4, f5⟩ := hf it (by simp)
    have W := Walks.range (prog := X.prog) (w := X.w) (I.ok.hd hc) it lo 1 n
    refine W.item i s _ _ hg st fun v h' tk hv st' kk => ?_
    obtain ⟨t, rfl⟩ := hv
    have I1 : Inv X pins σ H { s with heap := h', toks := tk } := I.turned (fun b o hb e => kk b o (by simpa using hb) e) f0 f1 f3 f4 f5
    refine ⟨_, rfl, go_of (s := { s with heap := h', toks := tk }) (n := "range_iterator") st' rfl rfl (by decide) ⟨.int (lo + i), H, I1, ⟨t, ?_⟩, ⟨rfl, rfl⟩, st', fun b hb => (hf b hb).1⟩⟩
    rw [Int.mul_one]
  done := by
    intro X hP hw hK hc i pins s σ H E I hf st hg
    subst hP hw hK
    obtain ⟨f0, f1, f2, f3, f4, f5⟩ := hf it (by simp)
    exact wpAny_pyNext_range_end (I.ok.hd hc) st (by have : n ≤ i := hg; omega) fun h' eb => ⟨rfl, I.turned (t' := s.toks) (fun b o hb e => eb b o hb e) f0 f1 f3 f4 f5⟩
  self := fun _ _ _ _ _ st h => wpAny_pyIter_rangeiter st h
end L2
namespace L2
open PySem PySem.Spec PyProof.Rows
section
variable {X : Cx} {tg : Expr}
def iList (K : PySem.W.Frag) (tl : TE) : TI := fun σ H R => tl σ H fun x H1 => ∃ a, x = .ref a ∧ (∃ xs, SqL K H1 a xs) ∧ R (Itl K a) H1
def iTup (K : PySem.W.Frag) (tl : TE) : TI := fun σ H R => tl σ H fun x H1 => ∃ a, x = .ref a ∧ (∃ xs, SqT K H1 a xs) ∧ R (Itt K a) H1
theorem pi_list {l : Expr} {tl : TE} (hl : PE X l tl) : PI X tg l (iList X.K tl) := by
  intro pins s σ H R I h
  refine thn (hl pins s σ H _ I h) fun v s1 ⟨x, H1, I1, r1, q1⟩ => ?_
  obtain ⟨a, e, ⟨xs, hq⟩, q⟩ := q1
  subst e
  cases r1
  obtain ⟨its, rv, p, hz⟩ := I1.list hq
  refine wpAny_pyIter_list p.isList ?_
  refine ⟨s1.heap.objs.size, [s1.heap.objs.size], _, _, H1, rfl, I1.kept (t' := s1.toks) fun b o e => Heap.get?_push_of_some _ e, turn_list a _, ⟨_, Heap.get?_push_size _ rfl, rfl, rfl⟩, fun b hb => ?_, q⟩
  have e : b = s1.heap.objs.size := by simpa using hb
  subst e
  exact I1.fpOk (Nat.le_refl _) (I1.hok.fresh (Nat.le_refl _))
theorem ji_list {l : Expr} {tl : TE} (hl : JE X l tl) : JI X tg l (iList X.K tl) := .of (pi_list hl.to)
theorem pi_tup {l : Expr} {tl : TE} (hl : PE X l tl) : PI X tg l (iTup X.K tl) := by
  intro pins s σ H R I h
  refine thn (hl pins s σ H _ I h) fun v s1 ⟨x, H1, I1, r1, q1⟩ => ?_
  obtain ⟨a, e, ⟨xs, hq⟩, q⟩ := q1
  subst e
  cases r1
  obtain ⟨its, rv, p, hz⟩ := I1.tuple hq
  refine wpAny_pyIter_tuple (show s1.heap.IsTuple a its.toArray from p) ?_
  refine ⟨s1.heap.objs.size, [s1.heap.objs.size], _, _, H1, rfl, I1.kept (t' := s1.toks) fun b o e => Heap.get?_push_of_some _ e, turn_tuple a _, ⟨_, Heap.get?_push_size _ rfl, rfl, rfl⟩, fun b hb => ?_, q⟩
  have e : b = s1.heap.objs.size := by simpa using hb
  subst e
  exact I1.fpOk (Nat.le_refl _) (I1.hok.fresh (Nat.le_refl _))
theorem ji_tup {l : Expr} {tl : TE} (hl : JE X l tl) : JI X tg l (iTup X.K tl) := .of (pi_tup hl.to)
theorem range_it {pins : List (Addr × Obj)} {σ : St} {H : Hp} {s : Shared} {R : It → Hp → Prop} {E : Value → Shared → Prop} {lo hi : Int} {t u v : Tok} {tk : Nat} (I : Inv X pins σ H s) (h1 : -(2 ^ 62) ≤ lo) (h2 : lo < 2 ^ 62) (h3 : -(2 ^ 62) ≤ hi) (h4 : hi < 2 ^ 62)
    (q : R (Itr lo (hi - lo).toNat) H) : wpAny (model X.prog X.w) X.A (pyIter (.ref s.heap.objs.size)) (PIE X pins σ tg R) E { s with heap := s.heap.push { cls := .type "range", data := .fields #[.int lo t, .int hi u, .int 1 v] }, toks := tk } := by
  refine wpAny_pyIter_range (IsRange.new ..) (small_one h1 h2 h3 h4) ?_
  have I1 : Inv X pins σ H { s with heap := s.heap.push { cls := .type "range", data := .fields #[.int lo t, .int hi u, .int 1 v] }, toks := tk } := I.kept fun b o e => Heap.get?_push_of_some _ e
  refine ⟨(s.heap.push { cls := .type "range", data := .fields #[.int lo t, .int hi u, .int 1 v] }).objs.size, [(s.heap.push { cls := .type "range", data := .fields #[.int lo t, .int hi u, .int 1 v] }).objs.size], _, _, H, rfl,
    I1.kept (t' := tk) fun b o e => Heap.get?_push_of_some _ e, turn_range _ lo (hi - lo).toNat, ?_, fun b hb => ?_, q⟩
  · have e1 : lo + ((0 : Nat) : Int) * 1 = lo := by simp
    have e2 : (((hi - lo).toNat : Nat) : Int) - ((0 : Nat) : Int) = Builtin.Range.rangeSize lo hi 1 := by rw [rangeSize_one]; split <;> omega
    show IsRangeIter _ _ (lo + ((0 : Nat) : Int) * 1) ((((hi - lo).toNat : Nat) : Int) - ((0 : Nat) : Int)) 1
    rw [e1, e2]
    exact Heap.get?_push_size _ rfl
  · have e : b = (s.heap.push { cls := .type "range", data := .fields #[.int lo t, .int hi u, .int 1 v] }).objs.size := by simpa using hb
    subst e
    exact I1.fpOk (Nat.le_refl _) (I1.hok.fresh (Nat.le_refl _))
def iRng1 (ta : TA) : TI := fun σ H R => ta σ H fun vs H1 => ∃ j : Int, vs = [.int j] ∧ -(2 ^ 62) ≤ j ∧ j < 2 ^ 62 ∧ R (Itr 0 j.toNat) H1
theorem pi_range1 {a : Expr} {ta : TA} {p pos : Pos} (hg : Gl X "range") (hm : X.mg "range" = none) (ha : PA X [a] ta) (hs : starEach [a] X.env = [(false, eval a X.env)] := by rfl) : PI X tg (.Call (.Name "range" p) [a] [] pos) (iRng1 ta) := by
  intro pins s σ H R I h
  refine Call_ (ld_blt I hg hm boot_range (PyProof.Rows.callWith_type1 (thn (ha pos pins s σ H _ I h) fun us s1 ⟨vs, H1, I1, r1, q1⟩ => ?_) hs rfl))
  obtain ⟨j, e, q1, q2, q⟩ := q1
  subst e
  cases r1 with
  | cons r rr =>
    cases rr
    obtain ⟨t, rfl⟩ := r
    exact call_range_1 (range_it I1 (by omega) (by omega) q1 q2 (by simpa using q))
theorem ji_range1 {a : Expr} {ta : TA} {p pos : Pos} (hg : Gl X "range") (hm : X.mg "range" = none) (ha : JA X [a] ta) (hs : starEach [a] X.env = [(false, eval a X.env)] := by rfl) : JI X tg (.Call (.Name "range" p) [a] [] pos) (iRng1 ta) := .of (pi_range1 hg hm ha.to hs)
def tFor (wi : TI) (g : TG) (tb : TS) : TS := fun D σ H => wi σ H fun J H1 => ∃ W : Nat → Nat → St → Hp → Prop, (∃ m, W 0 m σ H1) ∧ ∀ i m σ H, W i m σ H →
  (J.stop i H ∧ D.nx σ H) ∨ (J.go i H ∧ ∃ N : St → Hp → Prop, (∀ σ' H', N σ' H' → ∃ m', m' < m ∧ W (i + 1) m' σ' H') ∧ ∀ x H', J.yld i H x H' → g x σ H' fun σ2 H2 => tb { D with nx := N, ct := N, bk := D.nx } σ2 H2)
def pinsAt (fp : List Addr) (h : Heap) : List (Addr × Obj) := fp.filterMap fun b => (h.get? b).map fun o => (b, o)
theorem mem_pinsAt {fp : List Addr} {h : Heap} {b : Addr} {o : Obj} (hb : b ∈ fp) (e : h.get? b = some o) : (b, o) ∈ pinsAt fp h := List.mem_filterMap.mpr ⟨b, hb, by rw [e]; rfl⟩
theorem of_pinsAt {fp : List Addr} {h : Heap} {p : Addr × Obj} (hp : p ∈ pinsAt fp h) : p.1 ∈ fp ∧ h.get? p.1 = some p.2 := by
  obtain ⟨b, hb, e⟩ := List.mem_filterMap.mp hp
  cases q : h.get? b with
  | none => rw [q] at e; cases e
  | some o =>
    rw [q] at e
    have e' : (b, o) = p := Option.some.inj e
    subst e'
    exact ⟨hb, q⟩
theorem Inv.pinned {pins : List (Addr × Obj)} {σ : St} {H : Hp} {s : Shared} {fp : List Addr} (I : Inv X pins σ H s) (hf : ∀ b ∈ fp, FpOk X pins H b) (ho : ∀ b ∈ fp, ∃ o, s.heap.get? b = some o ∧ ∀ v, o.data ≠ .cell v) : Inv X (pins ++ pinsAt fp s.heap) σ H s :=
  I.pins_of fun p hp => (List.mem_append.mp hp).elim (fun z => I.pin p (List.mem_append_right _ z)) fun z => by
    obtain ⟨hb, e⟩ := of_pinsAt z
    obtain ⟨f0, f1, f2, _⟩ := hf p.1 hb
    obtain ⟨o, e', d⟩ := ho p.1 hb
    rw [e] at e'; cases e'
    exact ⟨e, f0, f1, f2, d⟩
theorem Inv.unpinned {pins pl : List (Addr × Obj)} {σ : St} {H : Hp} {s : Shared} (I : Inv X (pins ++ pl) σ H s) : Inv X pins σ H s := I.pins_of fun p hp => I.pin p (List.mem_append_right _ (List.mem_append_left _ hp))
theorem ps_for {iter : Expr} {body : List Stmt} {wi : TI} {g : TG} {tb : TS} {pos : Pos} (hp : PassesOwn (model X.prog X.w) X.A X.env X.xe) (hc : X.calm = true) (hi : PI X tg iter wi) (hg : PG X tg g) (hb : PSs X body tb)
    (hs : ∀ x, foldedSetIterable iter X.env x = pure x := by intro _; rfl) : PS X (.For tg iter body [] pos) (tFor wi g tb) := by
  intro pins s σ H D I h
  refine wpAny_For (thn (hi pins s σ H _ I h) fun v s1 h1 => thn h1 fun itv s2 h2 => ?_) hs
  obtain ⟨it, fp, tn, J, H2, e, I2, T, st2, f2, W, ⟨m0, w0⟩, turn⟩ := h2
  subst e
  have stat : ∀ {H' : Hp}, (∀ b ∈ fp, H' b = none) → ∀ b ∈ fp, FpOk X pins H' b := fun hn b hb => ⟨hn b hb, (f2 b hb).2⟩
  refine codeAny_forLoop_any (fun n s' => ∃ i σ' H', Inv X pins σ' H' s' ∧ tn i s'.heap ∧ (∀ b ∈ fp, H' b = none) ∧ W i n σ' H') ?_ m0 ⟨0, σ, H2, I2, st2, fun b hb => (f2 b hb).1, w0⟩
  rintro n s3 ⟨i, σ3, H3, I3, st3, fr3, w3⟩
  rcases turn i n σ3 H3 w3 with ⟨stop, qn⟩ | ⟨go, N, hN, step⟩
  · refine wpAny_passesOwn hp (thn (T.done X rfl rfl rfl hc i pins s3 σ3 H3 X.xe I3 (stat fr3) st3 stop) fun r s4 ⟨hr, I4⟩ => ?_)
    subst hr
    exact wpAny_execs_nil ⟨σ3, H3, I4, qn⟩
  · refine wpAny_passesOwn hp (thn (T.item X rfl rfl rfl hc i pins s3 σ3 H3 X.xe I3 (stat fr3) st3 go) fun r s4 ⟨u, hr, h4⟩ => ?_)
    subst hr
    refine wpAny_passesOwn hp (thn h4 fun _ s5 ⟨x, H5, I5, r5, y5, st5, fr5⟩ => ?_)
    have I5' := I5.pinned (stat fr5) (T.obj _ _ st5)
    refine wpAny_passesOwn hp (thn (hg _ s5 σ3 H5 x u _ I5' r5 (step x H5 y5)) fun _ s6 ⟨σ6, H6, I6, q6⟩ => ?_)
    refine wpAny_passesOwn hp (thn (hb _ s6 σ6 H6 _ I6 q6) fun f s7 q7 => ?_)
    have again : ∀ {σ7 : St} {H7 : Hp}, Inv X (pins ++ pinsAt fp s5.heap) σ7 H7 s7 → N σ7 H7 → ∃ m, m < n ∧ ∃ i σ' H', Inv X pins σ' H' s7 ∧ tn i s7.heap ∧ (∀ b ∈ fp, H' b = none) ∧ W i m σ' H' := fun {σ7 H7} I7 n7 => by
      obtain ⟨m', hm, w7⟩ := hN σ7 H7 n7
      refine ⟨m', hm, i + 1, σ7, H7, I7.unpinned, T.keep _ _ _ st5 fun b hb o e => (I7.pin (b, o) (List.mem_append_right _ (List.mem_append_right _ (mem_pinsAt hb e)))).1, fun b hb => ?_, w7⟩
      obtain ⟨o, e, d⟩ := T.obj _ _ st5 b hb
      exact (I7.pin (b, o) (List.mem_append_right _ (List.mem_append_right _ (mem_pinsAt hb e)))).2.1
    cases f with
    | next => obtain ⟨σ7, H7, I7, n7⟩ := q7; exact again I7 n7
    | cont => obtain ⟨σ7, H7, I7, n7⟩ := q7; exact again I7 n7
    | brk => obtain ⟨σ7, H7, I7, q7⟩ := q7; exact ⟨σ7, H7, I7.unpinned, q7⟩
    | ret v => obtain ⟨x7, σ7, H7, I7, r7, q7⟩ := q7; exact ⟨x7, σ7, H7, I7.unpinned, r7, q7⟩
theorem js_for {iter : Expr} {body : List Stmt} {wi : TI} {g : TG} {tb : TS} {pos : Pos} (hp : PassesOwn (model X.prog X.w) X.A X.env X.xe) (hc : X.calm = true) (hi : JI X tg iter wi) (hg : JG X tg g) (hb : JSs X body tb) (hs : ∀ x, foldedSetIterable iter X.env x = pure x := by intro _; rfl) : JS X (.For tg iter body [] pos) (tFor wi g tb) := .of (ps_for hp hc hi.to hg.to hb.to hs)
end
theorem for_list {K : PySem.W.Frag} {a : Addr} {xs : List V} {g : TG} {tb : TS} {D : Ends} {σ : St} {H : Hp} (Pv : Nat → St → Hp → Prop) (h0 : Pv 0 σ H) (hl : ∀ i σ H, i ≤ xs.length → Pv i σ H → SqL K H a xs)
    (hs : ∀ i x σ H, xs[i]? = some x → Pv i σ H → g x σ H fun σ2 H2 => tb { D with nx := Pv (i + 1), ct := Pv (i + 1), bk := D.nx } σ2 H2) (hd : ∀ σ H, Pv xs.length σ H → D.nx σ H) :
    ∃ W : Nat → Nat → St → Hp → Prop, (∃ m, W 0 m σ H) ∧ ∀ i m σ H, W i m σ H →
      ((Itl K a).stop i H ∧ D.nx σ H) ∨ ((Itl K a).go i H ∧ ∃ N : St → Hp → Prop, (∀ σ' H', N σ' H' → ∃ m', m' < m ∧ W (i + 1) m' σ' H') ∧ ∀ x H', (Itl K a).yld i H x H' → g x σ H' fun σ2 H2 => tb { D with nx := N, ct := N, bk := D.nx } σ2 H2) := by
  refine ⟨fun i m σ H => m = xs.length - i ∧ i ≤ xs.length ∧ Pv i σ H, ⟨xs.length, by simp, Nat.zero_le _, h0⟩, ?_⟩
  rintro i m σ H ⟨rfl, hi, p⟩
  have q := hl i σ H hi p
  by_cases hlt : i < xs.length
  · refine .inr ⟨⟨xs, xs[i], q, by simp [hlt]⟩, Pv (i + 1), fun σ' H' p' => ⟨xs.length - (i + 1), by omega, rfl, hlt, p'⟩, fun x H' y => ?_⟩
    obtain ⟨e, y⟩ := y
    subst e
    exact hs i x σ _ (y xs q) p
  · have e : i = xs.length := by omega
    subst e
    exact .inl ⟨⟨xs, q, Nat.le_refl _⟩, hd σ H p⟩
theorem for_tup {K : PySem.W.Frag} {a : Addr} {xs : List V} {g : TG} {tb : TS} {D : Ends} {σ : St} {H : Hp} (Pv : Nat → St → Hp → Prop) (h0 : Pv 0 σ H) (hl : ∀ i σ H, i ≤ xs.length → Pv i σ H → SqT K H a xs)
    (hs : ∀ i x σ H, xs[i]? = some x → Pv i σ H → g x σ H fun σ2 H2 => tb { D with nx := Pv (i + 1), ct := Pv (i + 1), bk := D.nx } σ2 H2) (hd : ∀ σ H, Pv xs.length σ H → D.nx σ H) :
    ∃ W : Nat → Nat → St → Hp → Prop, (∃ m, W 0 m σ H) ∧ ∀ i m σ H, W i m σ H →
      ((Itt K a).stop i H ∧ D.nx σ H) ∨ ((Itt K a).go i H ∧ ∃ N : St → Hp → Prop, (∀ σ' H', N σ' H' → ∃ m', m' < m ∧ W (i + 1) m' σ' H') ∧ ∀ x H', (Itt K a).yld i H x H' → g x σ H' fun σ2 H2 => tb { D with nx := N, ct := N, bk := D.nx } σ2 H2) := by
  refine ⟨fun i m σ H => m = xs.length - i ∧ i ≤ xs.length ∧ Pv i σ H, ⟨xs.length, by simp, Nat.zero_le _, h0⟩, ?_⟩
  rintro i m σ H ⟨rfl, hi, p⟩
  have q := hl i σ H hi p
  by_cases hlt : i < xs.length
  · refine .inr ⟨⟨xs, xs[i], q, by simp [hlt]⟩, Pv (i + 1), fun σ' H' p' => ⟨xs.length - (i + 1), by omega, rfl, hlt, p'⟩, fun x H' y => ?_⟩
    obtain ⟨e, y⟩ := y
    subst e
    exact hs i x σ _ (y xs q) p
  · have e : i = xs.length := by omega
    subst e
    exact .inl ⟨⟨xs, q, Nat.le_refl _⟩, hd σ H p⟩
theorem for_range {lo : Int} {n : Nat} {g : TG} {tb : TS} {D : Ends} {σ : St} {H : Hp} (Pv : Nat → St → Hp → Prop) (h0 : Pv 0 σ H)
    (hs : ∀ i σ H, i < n → Pv i σ H → g (.int (lo + i)) σ H fun σ2 H2 => tb { D with nx := Pv (i + 1), ct := Pv (i + 1), bk := D.nx } σ2 H2) (hd : ∀ σ H, Pv n σ H → D.nx σ H) :
    ∃ W : Nat → Nat → St → Hp → Prop, (∃ m, W 0 m σ H) ∧ ∀ i m σ H, W i m σ H →
      ((Itr lo n).stop i H ∧ D.nx σ H) ∨ ((Itr lo n).go i H ∧ ∃ N : St → Hp → Prop, (∀ σ' H', N σ' H' → ∃ m', m' < m ∧ W (i + 1) m' σ' H') ∧ ∀ x H', (Itr lo n).yld i H x H' → g x σ H' fun σ2 H2 => tb { D with nx := N, ct := N, bk := D.nx } σ2 H2) := by
  refine ⟨fun i m σ H => m = n - i ∧ i ≤ n ∧ Pv i σ H, ⟨n, by simp, Nat.zero_le _, h0⟩, ?_⟩
  rintro i m σ H ⟨rfl, hi, p⟩
  by_cases hlt : i < n
  · refine .inr ⟨hlt, Pv (i + 1), fun σ' H' p' => ⟨n - (i + 1), by omega, rfl, hlt, p'⟩, fun x H' y => ?_⟩
    obtain ⟨e, y⟩ := y
    subst e y
    exact hs i σ _ hlt p
  · have e : i = n := by omega
    subst e
    exact .inl ⟨Nat.le_refl _, hd σ H p⟩
theorem while_by {c : TT} {tb : TS} {D : Ends} {σ : St} {H : Hp} (Pv : St → Hp → Prop) (μ : St → Hp → Nat) (h0 : Pv σ H)
    (hs : ∀ σ H, Pv σ H → c σ H fun b H1 => if b = true then tb { D with nx := fun σ' H' => Pv σ' H' ∧ μ σ' H' < μ σ H, ct := fun σ' H' => Pv σ' H' ∧ μ σ' H' < μ σ H, bk := D.nx } σ H1 else D.nx σ H1)
    (mono : ∀ σ H Q Q', (∀ b H1, Q b H1 → Q' b H1) → c σ H Q → c σ H Q') : tWhile c tb D σ H := by
  refine ⟨fun m σ H => m = μ σ H ∧ Pv σ H, ⟨_, rfl, h0⟩, ?_⟩
  rintro m σ H ⟨rfl, p⟩
  refine mono σ H _ _ (fun b H1 q => ?_) (hs σ H p)
  cases b with
  | true => exact ⟨_, fun σ' H' ⟨p', l⟩ => ⟨_, l, rfl, p'⟩, q⟩
  | false => exact q
end L2
namespace L2
open PySem PySem.Spec PyProof.Rows
abbrev R2 := V → V → Hp → VK → Prop
def OpR (X : Cx) (f : Value → Value → Sem Value) (r : R2) : Prop :=
  ∀ (pins : List (Addr × Obj)) (s : Shared) (σ : St) (H : Hp) (x y : V) (v u : Value) (Q : VK), Inv X pins σ H s → RelV x v → RelV y u → r x y H Q →
    wpAny (model X.prog X.w) X.A (f v u) (EP X pins σ Q) X.xe s
def CallR (X : Cx) (f : Value) (r : List V → Hp → VK → Prop) : Prop :=
  ∀ (pins : List (Addr × Obj)) (s : Shared) (σ : St) (H : Hp) (xs : List V) (us : List Value) (Q : VK), Inv X pins σ H s → Vals xs us → r xs H Q →
    wpAny (model X.prog X.w) X.A (call f us) (EP X pins σ Q) X.xe s
def tOp (r : R2) (ta tb : TE) : TE := fun σ H Q => ta σ H fun x H1 => tb σ H1 fun y H2 => r x y H2 Q
def rI (C : Int → Int → Prop) (g : Int → Int → V) : R2 := fun x y H Q => ∃ i j, x = .int i ∧ y = .int j ∧ C i j ∧ Q (g i j) H
def rI0 (g : Int → Int → V) : R2 := fun x y H Q => ∃ i j, x = .int i ∧ y = .int j ∧ Q (g i j) H
section
variable {X : Cx} {a b c : Expr} {ta tb tc : TE} {pos : Pos}
theorem binT (ha : PE X a ta) (hb : PE X b tb) {pins : List (Addr × Obj)} {s : Shared} {σ : St} {H : Hp} {R : V → V → Hp → Prop} (I : Inv X pins σ H s)
    (h : ta σ H fun x H1 => tb σ H1 fun y H2 => R x y H2) {Q : Value → Shared → Prop} {f : Value → Value → Sem Value}
    (hf : ∀ v u s2 x y H2, Inv X pins σ H2 s2 → RelV x v → RelV y u → R x y H2 → wpAny (model X.prog X.w) X.A (f v u) Q X.xe s2) :
    wpAny (model X.prog X.w) X.A (eval a X.env) (fun v s₁ => wpAny (model X.prog X.w) X.A (eval b X.env) (fun u s₂ => wpAny (model X.prog X.w) X.A (f v u) Q X.xe s₂) X.xe s₁) X.xe s := by
  refine thn (ha pins s σ H _ I h) fun v s1 ⟨x, H1, I1, r1, q1⟩ => ?_
  refine thn (hb pins s1 σ H1 _ I1 q1) fun u s2 ⟨y, H2, I2, r2, q2⟩ => ?_
  exact hf v u s2 x y H2 I2 r1 r2 q2
theorem pe_op {op : Operator} {r : R2} (ho : OpR X (binaryOp op) r) (ha : PE X a ta) (hb : PE X b tb) : PE X (.BinOp a op b pos) (tOp r ta tb) := by
  intro pins s σ H Q I h
  exact wpAny_BinOp (binT ha hb I h fun v u s2 x y H2 I2 rx ry q => ho pins s2 σ H2 x y v u Q I2 rx ry q)
theorem je_op {op : Operator} {r : R2} (ho : OpR X (binaryOp op) r) (ha : JE X a ta) (hb : JE X b tb) : JE X (.BinOp a op b pos) (tOp r ta tb) := .of (pe_op ho ha.to hb.to)
theorem opI {f : Value → Value → Sem Value} {C : Int → Int → Prop} {g : Int → Int → Int}
    (rule : ∀ (i j : Int) (t u : Tok) (s : Shared) (Q : Value → Shared → Prop) (E : Value → Shared → Prop), C i j → Q (.int (g i j) s.toks) { s with toks := s.toks + 1 } → wpAny (model X.prog X.w) X.A (f (.int i t) (.int j u)) Q E s) :
    OpR X f (rI C fun i j => .int (g i j)) := by
  intro pins s σ H x y v u Q I rx ry h
  obtain ⟨i, j, rfl, rfl, hc, q⟩ := h
  obtain ⟨t, rfl⟩ := rx
  obtain ⟨t', rfl⟩ := ry
  exact rule i j t t' s _ _ hc ⟨.int (g i j), H, I.tok _, ⟨_, rfl⟩, q⟩
theorem opI0 {f : Value → Value → Sem Value} {g : Int → Int → Int}
    (rule : ∀ (i j : Int) (t u : Tok) (s : Shared) (Q : Value → Shared → Prop) (E : Value → Shared → Prop), Q (.int (g i j) s.toks) { s with toks := s.toks + 1 } → wpAny (model X.prog X.w) X.A (f (.int i t) (.int j u)) Q E s) :
    OpR X f (rI0 fun i j => .int (g i j)) := by
  intro pins s σ H x y v u Q I rx ry h
  obtain ⟨i, j, rfl, rfl, q⟩ := h
  obtain ⟨t, rfl⟩ := rx
  obtain ⟨t', rfl⟩ := ry
  exact rule i j t t' s _ _ ⟨.int (g i j), H, I.tok _, ⟨_, rfl⟩, q⟩
theorem opB0 {f : Value → Value → Sem Value} {g : Int → Int → Bool}
    (rule : ∀ (i j : Int) (t u : Tok) (s : Shared) (Q : Value → Shared → Prop) (E : Value → Shared → Prop), Q (.bool (g i j)) s → wpAny (model X.prog X.w) X.A (f (.int i t) (.int j u)) Q E s) :
    OpR X f (rI0 fun i j => .bl (g i j)) := by
  intro pins s σ H x y v u Q I rx ry h
  obtain ⟨i, j, rfl, rfl, q⟩ := h
  obtain ⟨t, rfl⟩ := rx
  obtain ⟨t', rfl⟩ := ry
  exact rule i j t t' s _ _ ⟨.bl (g i j), H, I, rfl, q⟩
def CDiv (i j : Int) : Prop := 0 < j ∧ j < 1073741824
def CPow (i j : Int) : Prop := 0 ≤ j ∧ j ≤ 1000000 ∧ i.natAbs < 2 ^ 64
def CMul (i j : Int) : Prop := (-(2 ^ 64) < i ∧ i < 2 ^ 64) ∨ (-(2 ^ 64) < j ∧ j < 2 ^ 64)
theorem CMul.ok {i j : Int} (h : CMul i j) : IntMulOk i j := by
  rcases h with ⟨h1, h2⟩ | ⟨h1, h2⟩
  · exact .of_left (intBits_le_64 h1 h2)
  · exact .of_right (intBits_le_64 h1 h2)
theorem op_add : OpR X (binaryOp .Add) (rI0 fun i j => .int (i + j)) := opI0 fun _ _ _ _ _ _ _ q => add_int q
theorem op_sub : OpR X (binaryOp .Sub) (rI0 fun i j => .int (i - j)) := opI0 fun _ _ _ _ _ _ _ q => sub_int q
theorem op_mul : OpR X (binaryOp .Mult) (rI CMul fun i j => .int (i * j)) := opI fun _ _ _ _ _ _ _ hc q => mul_int q hc.ok
theorem op_fdiv : OpR X (binaryOp .FloorDiv) (rI CDiv fun i j => .int (i / j)) := opI fun i j _ _ _ _ _ hc q => by
  have h1 : (0 : Int) < j := hc.1
  have h2 : j < 1073741824 := hc.2
  exact floordiv_int (by omega) (by rw [Int.fdiv_eq_ediv_of_nonneg i (by omega)]; exact q) (.inl (PyProof.noPylong_small (by omega)))
theorem op_mod : OpR X (binaryOp .Mod) (rI (fun _ j => 0 < j) fun i j => .int (i % j)) := opI fun i j _ _ _ _ _ hc q => by
  have h1 : (0 : Int) < j := hc
  exact mod_int' (by omega) (by rw [Int.fmod_eq_emod_of_nonneg i (by omega)]; exact q)
theorem op_pow : OpR X (binaryOp .Pow) (rI CPow fun i j => .int (i ^ j.toNat)) := opI fun _ _ _ _ _ _ _ hc q => pow_int_small hc.1 hc.2.1 hc.2.2 q
end
def scal : V → V → Bool
  | .non, .non => true | .non, .int _ => true | .int _, .non => true | .non, .bl _ => true | .bl _, .non => true | .non, .str _ => true | .str _, .non => true
  | .int _, .int _ => true | .bl _, .bl _ => true | .str _, .str _ => true | .byt _, .byt _ => true
  | .int _, .str _ => true | .str _, .int _ => true | .bl _, .str _ => true | .str _, .bl _ => true
  | _, _ => false
def rEq : R2 := fun x y H Q => scal x y = true ∧ Q (.bl (decide (x = y))) H
def rNe : R2 := fun x y H Q => scal x y = true ∧ Q (.bl (!decide (x = y))) H
theorem dec_int {i j : Int} : decide (V.int i = V.int j) = (i == j) := by
  rw [Bool.eq_iff_iff]
  simp
theorem dec_bl {i j : Bool} : decide (V.bl i = V.bl j) = (i == j) := by
  rw [Bool.eq_iff_iff]
  simp
theorem dec_str {i j : Str} : decide (V.str i = V.str j) = (i == j) := by
  rw [Bool.eq_iff_iff]
  simp
theorem dec_byt {i j : Array UInt8} : decide (V.byt i = V.byt j) = (i.toList == j.toList) := by
  rw [Bool.eq_iff_iff]
  cases i
  cases j
  simp
section
variable {X : Cx} {a b c : Expr} {ta tb tc : TE} {pos : Pos}
theorem fin_bl {pins : List (Addr × Obj)} {σ : St} {H : Hp} {s : Shared} {Q : VK} {k k' : Bool} (I : Inv X pins σ H s) (q : Q (.bl k) H) (e : k = k') : EP X pins σ Q (.bool k') s := by
  subst e
  exact ⟨.bl k, H, I, rfl, q⟩
theorem op_eq : OpR X (compareOp .Eq) rEq := by
  intro pins s σ H x y v u Q I rx ry h
  obtain ⟨hs, q⟩ := h
  cases x with
  | non =>
    cases rx
    cases y with
    | non => cases ry; exact PySem.EqNone.eq_none_none (fin_bl I q (by simp))
    | bl j => cases ry; exact PySem.EqNone.eq_none_bool (fin_bl I q (by simp))
    | int j => obtain ⟨t', rfl⟩ := ry; exact PySem.EqNone.eq_none_int (fin_bl I q (by simp))
    | str j => obtain ⟨t', rfl⟩ := ry; exact PySem.EqNone.eq_none_str (fin_bl I q (by simp))
    | _ => exact absurd (show false = true from hs) Bool.false_ne_true
  | bl i =>
    cases rx
    cases y with
    | non => cases ry; exact PySem.EqNone.eq_bool_none (fin_bl I q (by simp))
    | bl j => cases ry; exact eq_bool (fin_bl I q dec_bl)
    | str j => obtain ⟨t', rfl⟩ := ry; exact PySem.EqMixed.eq_bool_str (fin_bl I q (by simp))
    | _ => exact absurd (show false = true from hs) Bool.false_ne_true
  | int i =>
    obtain ⟨t, rfl⟩ := rx
    cases y with
    | non => cases ry; exact PySem.EqNone.eq_int_none (fin_bl I q (by simp))
    | int j => obtain ⟨t', rfl⟩ := ry; exact eq_int (fin_bl I q dec_int)
    | str j => obtain ⟨t', rfl⟩ := ry; exact PySem.EqMixed.eq_int_str (fin_bl I q (by simp))
    | _ => exact absurd (show false = true from hs) Bool.false_ne_true
  | str i =>
    obtain ⟨t, rfl⟩ := rx
    cases y with
    | non => cases ry; exact PySem.EqNone.eq_str_none (fin_bl I q (by simp))
    | bl j => cases ry; exact PySem.EqMixed.eq_str_bool (fin_bl I q (by simp))
    | int j => obtain ⟨t', rfl⟩ := ry; exact PySem.EqMixed.eq_str_int (fin_bl I q (by simp))
    | str j => obtain ⟨t', rfl⟩ := ry; exact eq_str (fin_bl I q dec_str)
    | _ => exact absurd (show false = true from hs) Bool.false_ne_true
  | byt i =>
    obtain ⟨t, rfl⟩ := rx
    cases y with
    | byt j => obtain ⟨t', rfl⟩ := ry; exact PySem.W.eq_bytes (fin_bl I q dec_byt)
    | _ => exact absurd (show false = true from hs) Bool.false_ne_true
  | _ => cases y <;> exact absurd (show false = true from hs) Bool.false_ne_true
theorem op_ne : OpR X (compareOp .NotEq) rNe := by
  intro pins s σ H x y v u Q I rx ry h
  obtain ⟨hs, q⟩ := h
  cases x with
  | non =>
    cases rx
    cases y with
    | non => cases ry; exact PySem.EqNone.ne_none_none (fin_bl I q (by simp))
    | bl j => cases ry; exact PySem.EqNone.ne_none_bool (fin_bl I q (by simp))
    | int j => obtain ⟨t', rfl⟩ := ry; exact PySem.EqNone.ne_none_int (fin_bl I q (by simp))
    | str j => obtain ⟨t', rfl⟩ := ry; exact PySem.EqNone.ne_none_str (fin_bl I q (by simp))
    | _ => exact absurd (show false = true from hs) Bool.false_ne_true
  | bl i =>
    cases rx
    cases y with
    | non => cases ry; exact PySem.EqNone.ne_bool_none (fin_bl I q (by simp))
    | bl j => cases ry; exact ne_bool (fin_bl I q (congrArg not dec_bl))
    | str j => obtain ⟨t', rfl⟩ := ry; exact PySem.EqMixed.ne_bool_str (fin_bl I q (by simp))
    | _ => exact absurd (show false = true from hs) Bool.false_ne_true
  | int i =>
    obtain ⟨t, rfl⟩ := rx
    cases y with
    | non => cases ry; exact PySem.EqNone.ne_int_none (fin_bl I q (by simp))
    | int j => obtain ⟨t', rfl⟩ := ry; exact ne_int (fin_bl I q (congrArg not dec_int))
    | str j => obtain ⟨t', rfl⟩ := ry; exact PySem.EqMixed.ne_int_str (fin_bl I q (by simp))
    | _ => exact absurd (show false = true from hs) Bool.false_ne_true
  | str i =>
    obtain ⟨t, rfl⟩ := rx
    cases y with
    | non => cases ry; exact PySem.EqNone.ne_str_none (fin_bl I q (by simp))
    | bl j => cases ry; exact PySem.EqMixed.ne_str_bool (fin_bl I q (by simp))
    | int j => obtain ⟨t', rfl⟩ := ry; exact PySem.EqMixed.ne_str_int (fin_bl I q (by simp))
    | str j => obtain ⟨t', rfl⟩ := ry; exact ne_str (fin_bl I q (congrArg not dec_str))
    | _ => exact absurd (show false = true from hs) Bool.false_ne_true
  | byt i =>
    obtain ⟨t, rfl⟩ := rx
    cases y with
    | byt j => obtain ⟨t', rfl⟩ := ry; exact PySem.W.ne_bytes (fin_bl I q (congrArg not dec_byt))
    | _ => exact absurd (show false = true from hs) Bool.false_ne_true
  | _ => cases y <;> exact absurd (show false = true from hs) Bool.false_ne_true
theorem op_lt : OpR X (compareOp .Lt) (rI0 fun i j => .bl (decide (i < j))) := opB0 fun _ _ _ _ _ _ _ q => lt_int q
theorem op_gt : OpR X (compareOp .Gt) (rI0 fun i j => .bl (decide (j < i))) := opB0 fun _ _ _ _ _ _ _ q => gt_int q
theorem op_ge : OpR X (compareOp .GtE) (rI0 fun i j => .bl (decide (j ≤ i))) := opB0 fun _ _ _ _ _ _ _ q => ge_int q
theorem op_in_str : OpR X (compareOp .In) (fun x y H Q => ∃ i j, x = .str i ∧ y = .str j ∧ Q (.bl (!(Builtin.Str.occurrences j i 0 j.length 1).isEmpty)) H) := by
  intro pins s σ H x y v u Q I rx ry h
  obtain ⟨i, j, rfl, rfl, q⟩ := h
  obtain ⟨t, rfl⟩ := rx
  obtain ⟨t', rfl⟩ := ry
  exact in_str (fin_bl I q rfl)
theorem OpR.or {f : Value → Value → Sem Value} {r r' : R2} (h : OpR X f r) (h' : OpR X f r') : OpR X f (fun x y H Q => r x y H Q ∨ r' x y H Q) := by
  intro pins s σ H x y v u Q I rx ry q
  rcases q with q | q
  · exact h pins s σ H x y v u Q I rx ry q
  · exact h' pins s σ H x y v u Q I rx ry q
theorem nomark (b : Expr) {op : CmpOp} (h : op ≠ .In := by decide) (h2 : op ≠ .NotIn := by decide) : behindInMarks op b = false := by
  have e1 : (op == CmpOp.In) = false := by cases op <;> first | rfl | exact absurd rfl h
  have e2 : (op == CmpOp.NotIn) = false := by cases op <;> first | rfl | exact absurd rfl h2
  cases b <;> simp [behindInMarks, e1, e2]
theorem pe_cmpR {op : CmpOp} {r : R2} (ho : OpR X (compareOp op) r) (ha : PE X a ta) (hb : PE X b tb) (hm : behindInMarks op b = false) : PE X (.Compare a [op] [b] pos) (tOp r ta tb) := by
  intro pins s σ H Q I h
  exact wpAny_Compare1 (binT ha hb I h fun v u s2 x y H2 I2 rx ry q => ho pins s2 σ H2 x y v u Q I2 rx ry q) hm
theorem je_cmpR {op : CmpOp} {r : R2} (ho : OpR X (compareOp op) r) (ha : JE X a ta) (hb : JE X b tb) (hm : behindInMarks op b = false) : JE X (.Compare a [op] [b] pos) (tOp r ta tb) := .of (pe_cmpR ho ha.to hb.to hm)
def tTest (t : TE) : TT := fun σ H Q => t σ H fun x H' => ∃ k, x = .bl k ∧ Q k H'
theorem pt_cmpR {op : CmpOp} {r : R2} (ho : OpR X (compareOp op) r) (ha : PE X a ta) (hb : PE X b tb) (hm : behindInMarks op b = false) : PT X (.Compare a [op] [b] pos) (tTest (tOp r ta tb)) := by
  intro pins s σ H Q I h
  refine wpAny_isTrue_Compare1 (thn (ha pins s σ H _ I h) fun v s1 ⟨x, H1, I1, r1, q1⟩ => thn (hb pins s1 σ H1 _ I1 q1) fun u s2 ⟨y, H2, I2, r2, q2⟩ =>
    thn (ho pins s2 σ H2 x y v u _ I2 r1 r2 q2) fun c s3 ⟨z, H3, I3, r3, k, e, q3⟩ => ?_) hm
  subst e
  cases r3
  exact wpAny_truthy_bool ⟨H3, I3, q3⟩
theorem jt_cmpR {op : CmpOp} {r : R2} (ho : OpR X (compareOp op) r) (ha : JE X a ta) (hb : JE X b tb) (hm : behindInMarks op b = false) : JT X (.Compare a [op] [b] pos) (tTest (tOp r ta tb)) := .of (pt_cmpR ho ha.to hb.to hm)
theorem line63 : (sizeLine : Nat) < 2 ^ 63 := by rw [sizeLine_eq]; decide
theorem op_add_str : OpR X (binaryOp .Add) (fun x y H Q => ∃ i j, x = .str i ∧ y = .str j ∧ i.length + j.length ≤ sizeLine ∧ Q (.str (i ++ j)) H) := by
  intro pins s σ H x y v u Q I rx ry h
  obtain ⟨i, j, rfl, rfl, hz, q⟩ := h
  obtain ⟨t, rfl⟩ := rx
  obtain ⟨t', rfl⟩ := ry
  exact add_str (fun t' tk => ⟨.str (i ++ j), H, I.tok _, ⟨_, rfl⟩, q⟩) hz
theorem vals1 {x : V} {us : List Value} (r : Vals [x] us) : ∃ u, us = [u] ∧ RelV x u := by
  cases r with
  | cons r1 r2 => cases r2; exact ⟨_, rfl, r1⟩
theorem vals2 {x y : V} {us : List Value} (r : Vals [x, y] us) : ∃ u w', us = [u, w'] ∧ RelV x u ∧ RelV y w' := by
  cases r with
  | cons r1 r2 =>
    cases r2 with
    | cons r3 r4 => cases r4; exact ⟨_, _, rfl, r1, r3⟩
theorem call_max2 (hc : X.calm = true) : CallR X (.builtin "max") (fun xs H Q => ∃ i j, xs = [.int i, .int j] ∧ Q (.int (if j > i then j else i)) H) := by
  intro pins s σ H xs us Q I r h
  obtain ⟨i, j, rfl, q⟩ := h
  obtain ⟨u, w', rfl, ⟨t, rfl⟩, ⟨t', rfl⟩⟩ := vals2 r
  refine max_two_ints (I.ok.hd hc) fun h' tk k => ⟨_, H, I.kept k, ?_, q⟩
  by_cases hj : j > i
  · rw [if_pos hj, if_pos hj]; exact ⟨_, rfl⟩
  · rw [if_neg hj, if_neg hj]; exact ⟨_, rfl⟩
theorem call_min2 (hc : X.calm = true) : CallR X (.builtin "min") (fun xs H Q => ∃ i j, xs = [.int i, .int j] ∧ Q (.int (if j < i then j else i)) H) := by
  intro pins s σ H xs us Q I r h
  obtain ⟨i, j, rfl, q⟩ := h
  obtain ⟨u, w', rfl, ⟨t, rfl⟩, ⟨t', rfl⟩⟩ := vals2 r
  refine min_two_ints (I.ok.hd hc) fun h' tk k => ⟨_, H, I.kept k, ?_, q⟩
  by_cases hj : j < i
  · rw [if_pos hj, if_pos hj]; exact ⟨_, rfl⟩
  · rw [if_neg hj, if_neg hj]; exact ⟨_, rfl⟩
theorem call_int1 : CallR X (.type "int") (fun xs H Q => (∃ i, xs = [.int i] ∧ Q (.int i) H) ∨ ∃ k, xs = [.bl k] ∧ Q (.int (if k then 1 else 0)) H) := by
  intro pins s σ H xs us Q I r h
  rcases h with ⟨i, rfl, q⟩ | ⟨k, rfl, q⟩
  · obtain ⟨u, rfl, t, rfl⟩ := vals1 r
    exact call_int_int ⟨.int i, H, I, ⟨_, rfl⟩, q⟩
  · obtain ⟨u, rfl, r1⟩ := vals1 r
    cases r1
    exact call_int_bool ⟨.int (if k then 1 else 0), H, I.tok _, ⟨_, rfl⟩, q⟩
end
end L2
namespace L2
open PySem PySem.Spec PyProof.Rows
structure ObjM (h : Heap) (x dx C : Addr) (mA : Str → Option Value) : Prop where
  obj : h.get? x = some (PySem.W.instObj C dx)
  ns : h.Ns1 dx mA
  ne : dx ≠ x
theorem lookIn_ns {h : Heap} {dx : Addr} {mA : Str → Option Value} (n : h.Ns1 dx mA) : ∃ od, h.get? dx = some od ∧ ∀ name, PySem.W.lookIn name od = some (mA name) := by
  obtain ⟨o, es, ep, ho, hd, hk, _, hm⟩ := n
  refine ⟨o, ho, fun name => ?_⟩
  have e := hm name
  unfold nsFind findBy at e
  rw [← Array.find?_toList] at e
  unfold PySem.W.lookIn
  rw [hd]
  dsimp only
  split
  · rename_i y q
    rw [q] at e
    exact congrArg some e
  · rename_i q
    rw [q] at e
    have a : es.toList.any (·.refKey) = false := by
      rw [List.any_eq_false]
      intro y hy
      obtain ⟨z, t, hkey⟩ := hk y (Array.mem_toList_iff.mp hy)
      simp [DictEntry.refKey, hkey]
    have a' : ¬ es.toList.any (·.refKey) = true := by rw [a]; exact Bool.false_ne_true
    rw [if_neg a']
    exact congrArg some e
theorem ObjM.look {h : Heap} {x dx C : Addr} {mA : Str → Option Value} (I : ObjM h x dx C mA) : ∃ od, PySem.W.InstAt h x (PySem.W.instObj C dx) C (some od) ∧ ∀ name, PySem.W.lookIn name od = some (mA name) :=
  let ⟨od, ho, hl⟩ := lookIn_ns I.ns
  ⟨od, ⟨I.obj, rfl, rfl, ho⟩, hl⟩
section
variable {prog : Program} {w : World} {A : Around} {E : Value → Shared → Prop} {s : Shared} {K : PySem.W.Frag} {x dx C f : Addr} {mA : Str → Option Value} {name : Str} {v : Value}
theorem get_map {expr : Bool} {Q : Value → Shared → Prop} (X : K.In s.heap) (I : ObjM s.heap x dx C mA) (hg : PySem.W.plainGet K C name = true) (hh : PySem.W.hasDictIn K C = true)
    (ha : PySem.W.findIn K (.ref C) name = some none) (hv : mA name = some v) (hv' : PySem.W.handedIn v = true) (h : Q v { s with toks := s.toks + 1 }) :
    wpAny (model prog w) A (getAttr (.ref x) name expr) Q E s := by
  obtain ⟨od, J, hl⟩ := I.look
  exact PySem.W.get_value X J (PySem.W.plainGet_of hg).1 (PySem.W.findObj_own hh ha rfl (by rw [hl, hv])) hv' h
theorem get_meth {pl : Sem Bool} {Q : Value × List Value → Shared → Prop} (X : K.In s.heap) (I : ObjM s.heap x dx C mA) (hg : PySem.W.plainGet K C name = true)
    (hf : PySem.W.findIn K (.ref C) name = some (some (.ref f))) (ht : PySem.W.isFn K (.ref f) = true) (hv : mA name = none) (h : Q (.ref f, [.ref x]) s) :
    wpAny (model prog w) A (getMethod (.ref x) name pl) Q E s := by
  obtain ⟨od, J, hl⟩ := I.look
  exact PySem.W.method_fn X J (PySem.W.plainGet_of hg).1 (PySem.W.plainGet_of hg).2 hf (beq_iff_eq.mp ht) (by show (PySem.W.lookIn name od).map (·.isSome) = some false; rw [hl, hv]; rfl) h
theorem set_map {ns : List Str} {Q : Unit → Shared → Prop} (X : K.In s.heap) (I : ObjM s.heap x dx C mA)
    (hs : PySem.W.findIn K (.ref C) "__setattr__" = some (some (.builtin "object.__setattr__"))) (hp : PySem.W.plainOver K C = true) (ht : PySem.W.takerIn K C name = some none) (hh : PySem.W.hasDictIn K C = true)
    (hw : PySem.Within mA ns) (hsz : ns.length ≤ sizeLine)
    (h : ∀ h', ObjM h' x dx C (fun y => if y = name then some v else mA y) → Heap.SameBut dx s.heap h' → Q () { s with heap := h', toks := s.toks + 2 }) :
    wpAny (model prog w) A (setAttr (.ref x) name v) Q E s := by
  obtain ⟨od, J, hl⟩ := I.look
  refine PySem.W.set_plain X J hs (PySem.W.osa_open (s := { s with toks := s.toks + 1 }) (r := none) X J hp ht fun b => ?_)
  obtain ⟨cd, hc, hd'⟩ := PySem.W.any_some hh
  have hx : s.heap.get? x = some ⟨.ref C, some dx, .plain, #[]⟩ := I.obj
  refine wpAny_bind (wpAny_pure (wpAny_bind (wpAny_bind (wpAny_loadPart hx (wpAny_bind (PySem.W.Looks.here (s := { s with toks := s.toks + 1 }) (PySem.W.looks_clsIn X hc) ?_))))))
  rw [hd']
  refine wpAny_pure (a := some dx) (wpAny_bind (wpAny_pure (wpAny_bind ?_)))
  refine wpAny_nsSet1 (s := { s with toks := s.toks + 1 }) I.ns fun h' hn2 hs2 => ?_
  obtain ⟨oD, esD, epD, hoD, hdD, hcD⟩ := hn2.count (PySem.Within.cons name v hw)
  refine wpAny_bind (wpAny_lookBehind hoD (by rw [hdD]; exact pastItsLine_dict (Nat.le_trans hcD (by rw [List.length_cons]; omega))) ?_)
  exact wpAny_pure (h _ ⟨(hs2.2 _ (Ne.symm I.ne)).trans I.obj, hn2, I.ne⟩ hs2)
theorem make_map {R : Result → Shared → Prop} {vs : List Value} {kw : List (Str × Value)} (X : K.In s.heap) (hm : PySem.W.makesIn K C = true)
    (hi : PySem.W.findIn K (.ref C) "__init__" = some (some (.ref f))) (hf : PySem.W.typeIn K (.ref f) = some (.type "function"))
    (h : codeAny (model prog w) (A.under (.builtin "type.__call__" ⟨.ref C :: vs, kw⟩)) (.call (.ref f) ⟨.ref (s.heap.objs.size + 1) :: vs, kw⟩) (PySem.W.InitBack (s.heap.objs.size + 1) R)
      { s with heap := (s.heap.push PySem.W.emptyDict).push (PySem.W.instObj C s.heap.objs.size) }) :
    codeAny (model prog w) A (.call (.ref C) ⟨vs, kw⟩) R s := by
  obtain ⟨hh, g, d, t, os⟩ := s
  exact PySem.W.make_core (PySem.W.makes_of X hm) (PySem.W.looks_findIn X hi) (fun self => PySem.W.bind_fn X self hf) (.inl rfl) h
end
def putF (f : Str) (v : V) : List (Str × V) → List (Str × V)
  | [] => [(f, v)]
  | (g, x) :: r => if g = f then (g, v) :: r else (g, x) :: putF f v r
theorem lookup_putF (f g : Str) (v : V) : ∀ fs : List (Str × V), (putF f v fs).lookup g = if g = f then some v else fs.lookup g
  | [] => by
    show List.lookup g [(f, v)] = _
    by_cases h : g = f
    · have hb : (g == f) = true := beq_iff_eq.mpr h
      simp only [List.lookup, hb, if_pos h]
    · have hb : (g == f) = false := beq_eq_false_iff_ne.mpr h
      simp only [List.lookup, hb, if_neg h]
  | (k, x) :: r => by
    have ih := lookup_putF f g v r
    rw [show putF f v ((k, x) :: r) = (if k = f then (k, v) :: r else (k, x) :: putF f v r) from rfl]
    by_cases hk : k = f
    · rw [if_pos hk]
      by_cases h : g = k
      · have hb : (g == k) = true := beq_iff_eq.mpr h
        simp only [List.lookup, hb, if_pos (h.trans hk)]
      · have hb : (g == k) = false := beq_eq_false_iff_ne.mpr h
        simp only [List.lookup, hb, if_neg (fun e : g = f => h (e.trans hk.symm))]
    · rw [if_neg hk]
      by_cases h : g = k
      · have hb : (g == k) = true := beq_iff_eq.mpr h
        simp only [List.lookup, hb, if_neg (fun e : g = f => hk (h.symm.trans e))]
      · have hb : (g == k) = false := beq_eq_false_iff_ne.mpr h
        simp only [List.lookup, hb]
        exact ih
theorem keys_putF (f : Str) (v : V) : ∀ fs : List (Str × V), f ∈ (putF f v fs).map (·.1) ∧ ∀ g, g ∈ fs.map (·.1) → g ∈ (putF f v fs).map (·.1)
  | [] => ⟨by simp [putF], fun g h => by simp at h⟩
  | (k, x) :: r => by
    obtain ⟨i1, i2⟩ := keys_putF f v r
    rw [show putF f v ((k, x) :: r) = (if k = f then (k, v) :: r else (k, x) :: putF f v r) from rfl]
    by_cases hk : k = f
    · rw [if_pos hk]
      subst hk
      exact ⟨by simp, fun g h => by simpa using h⟩
    · rw [if_neg hk]
      refine ⟨?_, fun g h => ?_⟩
      · rw [List.map_cons]
        exact List.mem_cons_of_mem _ i1
      · rw [List.map_cons] at h ⊢
        rcases List.mem_cons.mp h with e | e
        · exact List.mem_cons.mpr (.inl e)
        · exact List.mem_cons_of_mem _ (i2 g e)
theorem length_putF (f : Str) (v : V) : ∀ fs : List (Str × V), (putF f v fs).length ≤ fs.length + 1
  | [] => by simp [putF]
  | (k, x) :: r => by
    have ih := length_putF f v r
    rw [show putF f v ((k, x) :: r) = (if k = f then (k, v) :: r else (k, x) :: putF f v r) from rfl]
    by_cases hk : k = f
    · rw [if_pos hk, List.length_cons, List.length_cons]; omega
    · rw [if_neg hk, List.length_cons, List.length_cons]; omega
theorem RelO.some_of {v : V} {o : Option Value} (r : RelO (some v) o) : ∃ u, o = some u ∧ RelV v u := by
  cases o with
  | none => exact (show False from r).elim
  | some u => exact ⟨u, rfl, r⟩
theorem RelO.none_of {o : Option Value} (r : RelO none o) : o = none := by
  cases o with
  | none => rfl
  | some u => exact (show False from r).elim
theorem handed_of {v : V} {u : Value} (r : RelV v u) : PySem.W.handedIn u = true := by
  cases v with
  | non => cases (show u = Value.none from r); rfl
  | bl b => cases (show u = Value.bool b from r); rfl
  | int i => obtain ⟨t, e⟩ := (show ∃ t, u = Value.int i t from r); cases e; rfl
  | str x => obtain ⟨t, e⟩ := (show ∃ t, u = Value.str x t from r); cases e; rfl
  | byt b => obtain ⟨t, e⟩ := (show ∃ t, u = Value.bytes b t from r); cases e; rfl
  | flt b => obtain ⟨t, e⟩ := (show ∃ t, u = Value.float b t from r); cases e; rfl
  | ref a => cases (show u = Value.ref a from r); rfl
  | ty n => cases (show u = Value.type n from r); rfl
section
variable {P : Program} {w : World} {H H' : Hp} {h h' : Heap} {a C dx : Addr} {fs fs' : List (Str × V)}
theorem ins_get (hok : HOk P w H h) (e : H a = some (.ins C dx fs)) : ∃ mA, ObjM h a dx C mA ∧ (∀ f, RelO (fs.lookup f) (mA f)) ∧ PySem.Within mA (fs.map (·.1)) ∧ fs.length ≤ 1000 ∧ H dx = some (.own a) := by
  obtain ⟨d, z, ne, ob, mA, n, r, q⟩ := (show ObjOk P w H h a (.ins C dx fs) from hok a _ e)
  exact ⟨mA, ⟨ob, n, ne⟩, r, q, z, d⟩
end
structure Cls (K : PySem.W.Frag) (C : Addr) : Prop where
  pg : PySem.W.plainGet K C Str.empty = true
  hd : PySem.W.hasDictIn K C = true
  po : PySem.W.plainOver K C = true
  sa : PySem.W.findIn K (.ref C) "__setattr__" = some (some (.builtin "object.__setattr__"))
theorem Cls.get {K : PySem.W.Frag} {C : Addr} (c : Cls K C) (f : Str) : PySem.W.plainGet K C f = true := c.pg
def NoAttr (K : PySem.W.Frag) (C : Addr) (f : Str) : Prop := PySem.W.findIn K (.ref C) f = some none
theorem NoAttr.taker {K : PySem.W.Frag} {C : Addr} {f : Str} (n : NoAttr K C f) : PySem.W.takerIn K C f = some none := by
  unfold PySem.W.takerIn
  rw [show PySem.W.findIn K (.ref C) f = some none from n]
  rfl
structure Con (K : PySem.W.Frag) (C : Addr) (f : Str) (v : V) (u : Value) : Prop where
  at_ : PySem.W.findIn K (.ref C) f = some (some u)
  rel : RelV v u
  get : PySem.W.specialIn K u "__get__" = some none
  cp : PySem.W.copiedNames.contains f = false
structure Meth (K : PySem.W.Frag) (C : Addr) (m : Str) (f : Addr) : Prop where
  at_ : PySem.W.findIn K (.ref C) m = some (some (.ref f))
  fn : PySem.W.isFn K (.ref f) = true
  kp : PySem.W.keepIn K (.ref f) = true
section
variable {X : Cx} {pins : List (Addr × Obj)} {σ : St} {H : Hp} {s : Shared} {a C dx : Addr} {fs : List (Str × V)} {f : Str} {v : V} {A : Around} {E : Value → Shared → Prop}
theorem getattr_ok {b : Bool} {Q : Value → Shared → Prop} (I : Inv X pins σ H s) (e : H a = some (.ins C dx fs)) (c : Cls X.K C) (n : NoAttr X.K C f) (l : fs.lookup f = some v)
    (h : ∀ u s', Inv X pins σ H s' → RelV v u → Q u s') : wpAny (model X.prog X.w) A (getAttr (.ref a) f b) Q E s := by
  obtain ⟨mA, O, r, _, _, _⟩ := ins_get I.hok e
  obtain ⟨u, hu, ru⟩ := RelO.some_of (v := v) (o := mA f) (by rw [← l]; exact r f)
  exact get_map I.kIn O (c.get f) c.hd n hu (handed_of ru) (h u _ (I.tok _) ru)
theorem getmeth_ok {m : Str} {g : Addr} {pl : Sem Bool} {Q : Value × List Value → Shared → Prop} (I : Inv X pins σ H s) (e : H a = some (.ins C dx fs)) (c : Cls X.K C) (k : Meth X.K C m g) (l : fs.lookup m = none)
    (h : Q (.ref g, [.ref a]) s) : wpAny (model X.prog X.w) A (getMethod (.ref a) m pl) Q E s := by
  obtain ⟨mA, O, r, _, _, _⟩ := ins_get I.hok e
  have hn : mA m = none := RelO.none_of (by rw [← l]; exact r m)
  exact get_meth I.kIn O (c.get m) k.at_ k.fn hn h
theorem setattr_ok {y : V} {u : Value} {Q : Unit → Shared → Prop} (I : Inv X pins σ H s) (e : H a = some (.ins C dx fs)) (c : Cls X.K C) (n : NoAttr X.K C f) (hl : fs.length < 1000) (ry : RelV y u)
    (h : ∀ s', Inv X pins σ (upd H a (.ins C dx (putF f y fs))) s' → Q () s') : wpAny (model X.prog X.w) A (setAttr (.ref a) f u) Q E s := by
  obtain ⟨mA, O, r, wi, _, ho⟩ := ins_get I.hok e
  have hz : (fs.map (·.1)).length ≤ sizeLine := by rw [List.length_map, sizeLine_eq]; omega
  refine set_map I.kIn O c.sa c.po n.taker c.hd wi hz fun h' O' sb => h _ ?_
  have hd : ∃ o, h'.get? dx = some o := let ⟨o, _, _, e', _⟩ := O'.ns; ⟨o, e'⟩
  refine I.write (x := a) (e := dx) (by rw [e]; exact True.intro) (.inr ho) (fun b q hb z => (sb.2 b hb).trans z) hd ?_
  refine ⟨by rw [upd_ne O.ne]; exact ho, ?_, O.ne, O'.obj, _, O'.ns, fun g => ?_, fun g hg => ?_⟩
  · have := length_putF f y fs; omega
  · show RelO ((putF f y fs).lookup g) (if g = f then some u else mA g)
    rw [lookup_putF]
    by_cases q : g = f
    · rw [if_pos q, if_pos q]; exact ry
    · rw [if_neg q, if_neg q]; exact r g
  · by_cases q : g = f
    · rw [q]; exact (keys_putF f y fs).1
    · refine (keys_putF f y fs).2 g (wi g fun z => hg ?_)
      show (if g = f then some u else mA g) = none
      rw [if_neg q]; exact z
theorem Inv.made (I : Inv X pins σ H s) : Inv X pins σ (upd (upd H s.heap.objs.size (.own (s.heap.objs.size + 1))) (s.heap.objs.size + 1) (.ins C s.heap.objs.size []))
    { s with heap := (s.heap.push PySem.W.emptyDict).push (PySem.W.instObj C s.heap.objs.size) } := by
  have e1 : (s.heap.push PySem.W.emptyDict).get? s.heap.objs.size = some PySem.W.emptyDict := Heap.get?_push_size s.heap rfl
  have e2 : ((s.heap.push PySem.W.emptyDict).push (PySem.W.instObj C s.heap.objs.size)).get? (s.heap.objs.size + 1) = some (PySem.W.instObj C s.heap.objs.size) := by
    have := Heap.get?_push_size (s.heap.push PySem.W.emptyDict) (o := PySem.W.instObj C s.heap.objs.size) rfl
    rwa [Heap.size_push] at this
  have e3 : (s.heap.push PySem.W.emptyDict).Ns s.heap.objs.size (fun _ => none) := ⟨PySem.W.emptyDict, #[], _, e1, rfl, (fun e he => absurd he (by simp)), fun _ => rfl⟩
  have I1 := I.laid (a := s.heap.objs.size) (o := .own (s.heap.objs.size + 1)) (h' := s.heap.push PySem.W.emptyDict) (t' := s.toks) (fun b u q => Heap.get?_push_of_some _ q) (Nat.le_refl _) ⟨_, e1⟩
  refine I1.laid (a := s.heap.objs.size + 1) (o := .ins C s.heap.objs.size []) (t' := s.toks) (fun b u q => Heap.get?_push_of_some _ q) (Nat.le_of_eq (Heap.size_push _ _)) ?_
  have ne : s.heap.objs.size ≠ s.heap.objs.size + 1 := Nat.ne_of_lt (Nat.lt_succ_self _)
  refine ⟨by rw [upd_ne ne, upd_same], Nat.zero_le _, ne, e2, fun _ => none, (Heap.Ns1.of_empty e3).at fun o q => Heap.get?_push_of_some _ q, fun _ => True.intro, fun y hy => absurd rfl hy⟩
theorem attr_of {prog : Program} {w : World} {env : Env} {e : Expr} {f : Str} {pos : Pos} {s : Shared} {Q : Value → Shared → Prop} (hb : attributeBase e f env (eval e env) = eval e env)
    (h : wpAny (model prog w) A (eval e env) (fun o s₁ => wpAny (model prog w) A (getAttr o f true) Q E s₁) E s) : wpAny (model prog w) A (eval (.Attribute e f pos) env) Q E s :=
  Attribute_any_ h (by rw [arm_eval_Attribute, hb])
end
def tFld (K : PySem.W.Frag) (ta : TE) (f : Str) : TE := fun σ H Q => ta σ H fun x H1 => ∃ a C dx fs v, x = .ref a ∧ H1 a = some (.ins C dx fs) ∧ Cls K C ∧ NoAttr K C f ∧ fs.lookup f = some v ∧ Q v H1
def sFld (K : PySem.W.Frag) (ta tv : TE) (f : Str) : TS := fun D σ H => tv σ H fun y H1 => ta σ H1 fun x H2 => ∃ a C dx fs, x = .ref a ∧ H2 a = some (.ins C dx fs) ∧ Cls K C ∧ NoAttr K C f ∧ fs.length < 1000 ∧
  D.nx σ (upd H2 a (.ins C dx (putF f y fs)))
section
variable {X : Cx} {o e value : Expr} {f : Str} {pos pos' tpos : Pos} {ta tv : TE}
theorem pe_fld (he : PE X e ta) (hb : attributeBase e f X.env (eval e X.env) = eval e X.env) : PE X (.Attribute e f pos) (tFld X.K ta f) := by
  intro pins s σ H Q I h
  refine attr_of hb (thn (he pins s σ H _ I h) fun u s1 ⟨x, H1, I1, rx, a, C, dx, fs, v, ex, ea, c, n, l, q⟩ => ?_)
  subst ex
  obtain rfl : u = Value.ref a := rx
  exact getattr_ok I1 ea c n l fun u' s2 I2 ru => ⟨v, H1, I2, ru, q⟩
theorem je_fld (he : JE X e ta) (hb : attributeBase e f X.env (eval e X.env) = eval e X.env) : JE X (.Attribute e f pos) (tFld X.K ta f) := .of (pe_fld he.to hb)
theorem ps_fld (ha : PE X o ta) (hv : PE X value tv) (hs : swapsWith value (some (.Attribute o f pos')) pos.line X.env = pure false) : PS X (.Assign [.Attribute o f pos'] value pos) (sFld X.K ta tv f) := by
  intro pins s σ H D I h
  refine plainObj_wpAny_Assign_Attribute (thn (hv pins s σ H _ I h) fun u s1 ⟨y, H1, I1, ry, q⟩ => thn (ha pins s1 σ H1 _ I1 q) fun ov s2 ⟨x, H2, I2, rx, a, C, dx, fs, ex, ea, c, n, l, q2⟩ => ?_) hs
  subst ex
  obtain rfl : ov = Value.ref a := rx
  exact setattr_ok I2 ea c n l ry fun s3 I3 => ⟨σ, _, I3, q2⟩
theorem js_fld (ha : JE X o ta) (hv : JE X value tv) (hs : swapsWith value (some (.Attribute o f pos')) pos.line X.env = pure false) : JS X (.Assign [.Attribute o f pos'] value pos) (sFld X.K ta tv f) := .of (ps_fld ha.to hv.to hs)
end
section
variable {X : Cx} {pins : List (Addr × Obj)} {σ : St} {H : Hp} {s : Shared} {A : Around} {E : Value → Shared → Prop} {Q : Value → Shared → Prop} {c : Value} {b : Bool}
inductive TyOf (K : PySem.W.Frag) (H : Hp) : V → Value → Prop where
  | non : TyOf K H .non (.type "NoneType")
  | bl (x : Bool) : TyOf K H (.bl x) (.type "bool")
  | int (i : Int) : TyOf K H (.int i) (.type "int")
  | str (x : Str) : TyOf K H (.str x) (.type "str")
  | flt (x : UInt64) : TyOf K H (.flt x) (.type "float")
  | lst {a : Addr} {xs : List V} (e : H a = some (.lst xs)) : TyOf K H (.ref a) (.type "list")
  | frz {a : Addr} {o : Obj} {xs : List V} (e : H a = some (.frz o (.lst xs))) : TyOf K H (.ref a) (.type "list")
  | tup {a : Addr} {xs : List V} (e : H a = some (.tup xs)) : TyOf K H (.ref a) (.type "tuple")
  | dK {a : Addr} {kvs : List (Key × V)} (e : H a = some (.dK kvs)) : TyOf K H (.ref a) (.type "dict")
  | dT {a : Addr} {kvs : List (List Key × V)} (e : H a = some (.dT kvs)) : TyOf K H (.ref a) (.type "dict")
  | ins {a C dx : Addr} {fs : List (Str × V)} (e : H a = some (.ins C dx fs)) (cl : Cls K C) (ha : PySem.W.findIn K (.ref C) "__class__" = some (some (.builtin "object.__class__")))
      (hn : PySem.W.specialIn K (.builtin "object.__class__") "__get__" = some (some (.builtin "getset_descriptor.__get__"))) (htk : PySem.W.takesIn K (.builtin "object.__class__") = some true)
      (hm : PySem.W.mroIn K C (.type "object") = some true) : TyOf K H (.ref a) (.ref C)
theorem isinst_ok {x : V} {u t : Value} (I : Inv X pins σ H s) (rx : RelV x u) (ty : TyOf X.K H x t) (e : PySem.W.kitOne X.K t c = some b) (h : ∀ tk, Q (.bool b) { s with toks := tk }) :
    wpAny (model X.prog X.w) A (call (.builtin "isinstance") [u, c]) Q E s := by
  cases ty with
  | non => cases (show u = Value.none from rx); exact PySem.W.kia_one PySem.W.kitx_none I.kIn True.intro e (fun z => nomatch z) h
  | bl y => cases (show u = Value.bool y from rx); exact PySem.W.kia_one PySem.W.kitx_bool I.kIn True.intro e (fun z => nomatch z) h
  | int i => obtain ⟨t, q⟩ := (show ∃ t, u = Value.int i t from rx); cases q; exact PySem.W.kia_one PySem.W.kitx_int I.kIn True.intro e (fun z => nomatch z) h
  | str y => obtain ⟨t, q⟩ := (show ∃ t, u = Value.str y t from rx); cases q; exact PySem.W.kia_one PySem.W.kitx_str I.kIn True.intro e (fun z => nomatch z) h
  | flt y => obtain ⟨t, q⟩ := (show ∃ t, u = Value.float y t from rx); cases q; exact PySem.W.kia_one PySem.W.kitx_float I.kIn True.intro e (fun z => nomatch z) h
  | @lst a xs ea =>
    cases (show u = Value.ref a from rx)
    obtain ⟨_, _, n, _, h1⟩ := (show ObjOk X.prog X.w H s.heap a (.lst xs) from I.hok a _ ea)
    exact PySem.W.kia_one PySem.W.kitx_list I.kIn ⟨_, h1, rfl⟩ e (fun z => nomatch z) h
  | @frz a ob xs ea =>
    cases (show u = Value.ref a from rx)
    obtain ⟨_, _, _, n, _, h1⟩ := (show ObjOk X.prog X.w H s.heap a (.frz ob (.lst xs)) from I.hok a _ ea)
    exact PySem.W.kia_one PySem.W.kitx_list I.kIn ⟨_, h1, rfl⟩ e (fun z => nomatch z) h
  | @tup a xs ea =>
    cases (show u = Value.ref a from rx)
    obtain ⟨_, _, _, p⟩ := (show ObjOk X.prog X.w H s.heap a (.tup xs) from I.hok a _ ea)
    obtain ⟨o, h1, h2, _⟩ := p
    exact PySem.W.kia_one PySem.W.kitx_tuple I.kIn ⟨o, h1, h2⟩ e (fun z => nomatch z) h
  | @dK a kvs ea =>
    cases (show u = Value.ref a from rx)
    obtain ⟨_, _, vs, _, p⟩ := (show ObjOk X.prog X.w H s.heap a (.dK kvs) from I.hok a _ ea)
    obtain ⟨o, es, ep, h1, h2, _⟩ := p
    exact PySem.W.kia_one PySem.W.kitx_dict I.kIn ⟨o, h1, h2.1⟩ e (fun z => nomatch z) h
  | @dT a kvs ea =>
    cases (show u = Value.ref a from rx)
    obtain ⟨_, _, xs, _, o, es, ep, h1, h2, _⟩ := (show ObjOk X.prog X.w H s.heap a (.dT kvs) from I.hok a _ ea)
    exact PySem.W.kia_one PySem.W.kitx_dict I.kIn ⟨o, h1, h2.1⟩ e (fun z => nomatch z) h
  | @ins a C dx fs ea cl ha hn htk hm =>
    cases (show u = Value.ref a from rx)
    obtain ⟨mA, O, _⟩ := ins_get I.hok ea
    obtain ⟨od, J, _⟩ := O.look
    exact PySem.W.kia_one (PySem.W.kitx_own (cl.get _) cl.hd ha hn htk hm) I.kIn J e (fun z => nomatch z) h
end
end L2
namespace L2
open PySem PySem.Spec PyProof.Rows
structure Room (k : Nat) (A : Around) : Prop where
  hd : A.handled = none
  dp : A.depth + 3 * k + 5 < recursionLimit
  un : A.units + 16 * k + 200 < cLine
  gd : A.guards = some []
theorem Room.mono {j k : Nat} {A : Around} (r : Room k A) (h : j ≤ k) : Room j A := ⟨r.hd, by have := r.dp; omega, by have := r.un; omega, r.gd⟩
theorem Room.deeper {k : Nat} {A : Around} (r : Room (k + 1) A) (env : Env) : Room k (A.deeper env) :=
  ⟨r.hd, by have := r.dp; show A.depth + 1 + 3 * k + 5 < _; omega, by have := r.un; show A.units + 3 + 16 * k + 200 < _; omega, r.gd⟩
theorem Room.in1 {k : Nat} {A : Around} (r : Room (k + 1) A) : Room k A.in1 :=
  ⟨r.hd, by have := r.dp; show A.depth + 3 * k + 5 < _; omega, by have := r.un; show A.units + 1 + 16 * k + 200 < _; omega, r.gd⟩
theorem make_depth {A : Around} {C : Addr} {us : List Value} {kw : List (Str × Value)} : (A.under (.builtin "type.__call__" ⟨.ref C :: us, kw⟩)).depth = A.depth + 1 := by
  first | rfl | simp [Around.under, Code.weight, Code.isCreation, Code.isGuard, Code.isCaller, Code.frames, Code.isFrame, guardIds]
theorem make_units {A : Around} {C : Addr} {us : List Value} {kw : List (Str × Value)} : (A.under (.builtin "type.__call__" ⟨.ref C :: us, kw⟩)).units = A.units + 1 := by
  first | rfl | simp [Around.under, Code.cUnits, Code.frames, Code.isFrame]
theorem Room.make {k : Nat} {A : Around} (r : Room (k + 1) A) (C : Addr) (us : List Value) (kw : List (Str × Value)) : Room k (A.under (.builtin "type.__call__" ⟨.ref C :: us, kw⟩)) :=
  ⟨r.hd, by have := r.dp; rw [make_depth]; omega, by have := r.un; rw [make_units]; omega, (by have := r.gd; first | exact this | simpa [Around.under, Code.isGuard, guardIds] using this)⟩
theorem Room.depth {k : Nat} {A : Around} (r : Room k A) : A.depth < recursionLimit := by have := r.dp; omega
theorem Room.units {k : Nat} {A : Around} (r : Room k A) : A.units + 64 < cLine := by have := r.un; omega
def tNil : TA := fun _ H Q => Q [] H
def tCons (ta : TE) (tr : TA) : TA := fun σ H Q => ta σ H fun x H1 => tr σ H1 fun xs H2 => Q (x :: xs) H2
section
variable {X : Cx} {e : Expr} {es : List Expr} {te : TE} {t : TA} {pos : Pos}
theorem pa_nil : PA X [] tNil := fun _ _ _ _ H Q I h => Calls.spliced_nil ⟨[], H, I, .nil, h⟩
theorem ja_nil  : JA X [] tNil := .of (pa_nil )
theorem pa_cons (ha : PE X e te) (hr : PA X es t) (hs : starEach (e :: es) X.env = (false, eval e X.env) :: starEach es X.env := by rfl) : PA X (e :: es) (tCons te t) := by
  intro pos pins s σ H Q I h
  rw [hs]
  show wpAny _ _ (spliced ((false, eval e X.env) :: backTo pos (starEach es X.env))) _ _ s
  refine Calls.spliced_cons (thn (ha pins s σ H _ I h) fun u s1 ⟨x, H1, I1, r1, q1⟩ => ?_)
  exact thn (hr pos pins s1 σ H1 _ I1 q1) fun us s2 ⟨xs, H2, I2, r2, q2⟩ => ⟨x :: xs, H2, I2, .cons r1 r2, q2⟩
theorem ja_cons (ha : JE X e te) (hr : JA X es t) (hs : starEach (e :: es) X.env = (false, eval e X.env) :: starEach es X.env := by rfl) : JA X (e :: es) (tCons te t) := .of (pa_cons ha.to hr.to hs)
def tTup (t : TA) : TE := fun σ H Q => t σ H fun xs H1 => xs.length ≤ sizeLine ∧ ∀ p, H1 p = none → Q (.ref p) (upd H1 p (.tup xs))
def tLst (t : TA) : TE := fun σ H Q => t σ H fun xs H1 => xs.length ≤ sizeLine ∧ ∀ p, H1 p = none → Q (.ref p) (upd H1 p (.lst xs))
theorem pe_tup {x1} (h : PA X es t) : PE X (.Tuple es x1 pos) (tTup t) := by
  intro pins s σ H Q I hq
  refine wpAny_Tuple_spliced (thn (h pos pins s σ H _ I hq) fun us s1 ⟨xs, H1, I1, r, z, q⟩ => ⟨by rw [← r.length]; exact z, ?_⟩)
  have hf : H1 s1.heap.objs.size = none := I1.hok.fresh (Nat.le_refl _)
  refine ⟨.ref s1.heap.objs.size, upd H1 s1.heap.objs.size (.tup xs), I1.laid (t' := s1.toks) (fun b u e => Heap.get?_push_of_some _ e) (Nat.le_refl _) ?_, rfl, q _ hf⟩
  exact ⟨z, us, r, ⟨_, Heap.get?_push_size _ rfl, rfl, _, rfl⟩⟩
theorem je_tup {x1} (h : JA X es t) : JE X (.Tuple es x1 pos) (tTup t) := .of (pe_tup h.to)
theorem pe_lst (h : PA X es t) : PE X (.List es pos) (tLst t) := by
  intro pins s σ H Q I hq
  refine wpAny_List_spliced (thn (h pos pins s σ H _ I hq) fun us s1 ⟨xs, H1, I1, r, z, q⟩ => ⟨by rw [← r.length]; exact z, ?_⟩)
  have hf : H1 s1.heap.objs.size = none := I1.hok.fresh (Nat.le_refl _)
  refine ⟨.ref s1.heap.objs.size, upd H1 s1.heap.objs.size (.lst xs), I1.laid (t' := s1.toks) (fun b u e => Heap.get?_push_of_some _ e) (Nat.le_refl _) ?_, rfl, q _ hf⟩
  exact ⟨z, us, 0, r, Heap.get?_push_size _ rfl⟩
theorem je_lst (h : JA X es t) : JE X (.List es pos) (tLst t) := .of (pe_lst h.to)
end
abbrev Sp := List V → Hp → VK → XK → Prop
abbrev CXT := List Env → Hp → Shared → XK → Value → Shared → Prop
structure Env0 (P : Program) (w : World) (K : PySem.W.Frag) (mg : Str → Option Value) (base : Heap) (A : Around) (outer : List Env) (s : Shared) (H : Hp) : Prop where
  frames : A.frames = some outer
  mod : Mod K mg base
  bs : ∀ b o, base.get? b = some o → s.heap.get? b = some o ∧ H b = none
  bsz : base.objs.size ≤ s.heap.objs.size
  funs : s.heap.FunFrames base outer
  frf : ∀ b ∈ frs outer, H b = none
  hok : HOk P w H s.heap
  bare : AllBare s.gens
def CE (outer : List Env) (P : Program) (w : World) (H : Hp) (s : Shared) (Q : VK) (u : Value) (s' : Shared) : Prop :=
  ∃ v H', s'.os = s.os ∧ AllBare s'.gens ∧ Un (frs outer) [] H H' s.heap s'.heap ∧ HOk P w H' s'.heap ∧ RelV v u ∧ Q v H'
def CR (CX : CXT) (outer : List Env) (P : Program) (w : World) (H : Hp) (s : Shared) (Q : VK) (E : XK) (r : Result) (s' : Shared) : Prop :=
  match r with
  | .ok (.ret u) => CE outer P w H s Q u s'
  | .ok _ => False
  | .error e => CX outer H s E e s'
structure FnOk (P : Program) (w : World) (K : PySem.W.Frag) (mg : Str → Option Value) (base : Heap) (CX : CXT) (k : Nat) (f : Addr) (fd : FuncData) (ps : List Str) (sp : Sp) : Prop where
  len : ∀ vs H Q E, sp vs H Q E → vs.length = ps.length
  run : ∀ (A : Around) (outer : List Env) (s : Shared) (H : Hp) (args : Args) (us : List Value) (vs : List V) (Q : VK) (E : XK), Room k A → Env0 P w K mg base A outer s H → BindsTo s fd args (ps.zip us) → Vals vs us → sp vs H Q E →
    codeAny (model P w) A (.call (.ref f) args) (CR CX outer P w H s Q E) s
theorem FnOk.mono {P : Program} {w : World} {K : PySem.W.Frag} {mg : Str → Option Value} {base : Heap} {CX : CXT} {j k : Nat} {f : Addr} {fd : FuncData} {ps : List Str} {sp : Sp} (F : FnOk P w K mg base CX j f fd ps sp) (h : j ≤ k) :
    FnOk P w K mg base CX k f fd ps sp := ⟨F.len, fun A outer s H args us vs Q E hr => F.run A outer s H args us vs Q E (hr.mono h)⟩
theorem FnOk.imp {P : Program} {w : World} {K : PySem.W.Frag} {mg : Str → Option Value} {base : Heap} {CX : CXT} {k : Nat} {f : Addr} {fd : FuncData} {ps : List Str} {sp sp' : Sp} (F : FnOk P w K mg base CX k f fd ps sp)
    (h : ∀ vs H Q E, sp' vs H Q E → sp vs H Q E) : FnOk P w K mg base CX k f fd ps sp' :=
  ⟨fun vs H Q E q => F.len vs H Q E (h _ _ _ _ q), fun A outer s H args us vs Q E hr he hb hv hs => F.run A outer s H args us vs Q E hr he hb hv (h _ _ _ _ hs)⟩
theorem Env0.make {P : Program} {w : World} {K : PySem.W.Frag} {mg : Str → Option Value} {base : Heap} {A : Around} {outer : List Env} {s : Shared} {H : Hp} (e : Env0 P w K mg base A outer s H) (C : Addr) (us : List Value) (kw : List (Str × Value)) :
    Env0 P w K mg base (A.under (.builtin "type.__call__" ⟨.ref C :: us, kw⟩)) outer s H := ⟨by first | exact e.frames | (simpa [Around.under, Code.envs, Code.isFrame, pushEnvs] using e.frames), e.mod, e.bs, e.bsz, e.funs, e.frf, e.hok, e.bare⟩
theorem Env0.in1 {P : Program} {w : World} {K : PySem.W.Frag} {mg : Str → Option Value} {base : Heap} {A : Around} {outer : List Env} {s : Shared} {H : Hp} (e : Env0 P w K mg base A outer s H) :
    Env0 P w K mg base A.in1 outer s H := ⟨e.frames, e.mod, e.bs, e.bsz, e.funs, e.frf, e.hok, e.bare⟩
section
variable {X : Cx} {pins : List (Addr × Obj)} {σ : St} {H : Hp} {s s' : Shared}
theorem Inv.env0 (I : Inv X pins σ H s) : Env0 X.prog X.w X.K X.mg X.base X.A X.stack s H :=
  ⟨I.ok.frames, I.ok.mod, I.bs, Nat.le_trans I.ok.bsz I.sz, I.stack, I.stkFree, I.hok, I.bare⟩
theorem Inv.after {Q : VK} {u : Value} (I : Inv X pins σ H s) (h : CE X.stack X.prog X.w H s Q u s') : EP X pins σ Q u s' := by
  obtain ⟨v, H', os, bare, un, hok, r, q⟩ := h
  obtain ⟨hh, g, d, t, os'⟩ := s'
  obtain rfl : os' = s.os := os
  exact ⟨v, H', I.call (h' := hh) (g' := g) (d' := d) (t' := t) (ch := []) un hok bare (fun b z => absurd z (by simp)), r, q⟩
end
def tCall (sp : Sp) (dvs : List V) (E : XK) (t : TA) : TE := fun σ H Q => t σ H fun vs H1 => sp (vs ++ dvs) H1 Q E
def tMeth (C : Addr) (m : Str) (sp : Sp) (dvs : List V) (E : XK) (ta : TE) (t : TA) : TE := fun σ H Q => ta σ H fun x H1 => ∃ a dx fs, x = .ref a ∧ H1 a = some (.ins C dx fs) ∧ fs.lookup m = none ∧
  t σ H1 fun vs H2 => sp (x :: (vs ++ dvs)) H2 Q E
def tMake (C : Addr) (sp : Sp) (dvs : List V) (E : XK) (t : TA) : TE := fun σ H Q => t σ H fun vs H1 => ∀ x dx, H1 x = none → H1 dx = none → dx ≠ x →
  sp (.ref x :: (vs ++ dvs)) (upd (upd H1 dx (.own x)) x (.ins C dx [])) (fun v H2 => v = .non ∧ Q (.ref x) H2) E
def Binds (K : PySem.W.Frag) (fd : FuncData) (ps : List Str) (ds : List Value) : Prop :=
  ∀ (s : Shared) (us : List Value), K.In s.heap → (us ++ ds).length = ps.length → BindsTo s fd ⟨us, []⟩ (ps.zip (us ++ ds))
theorem Binds.all {K : PySem.W.Frag} {fd : FuncData} {ps : List Str} (h : ∀ us : List Value, us.length = ps.length → bindArgs fd ⟨us, []⟩ = pure (ps.zip us)) : Binds K fd ps [] := fun s us _ hl => by
  rw [List.append_nil] at hl ⊢
  exact .of_eq (h us hl)
def Passes (CX : CXT) (X : Cx) (E : XK) : Prop := ∀ (pins : List (Addr × Obj)) (σ : St) (H : Hp) (s : Shared) (e : Value) (s' : Shared), Inv X pins σ H s → CX X.stack H s E e s' → X.xe e s'
section
variable {X : Cx} {CX : CXT} {k : Nat} {f C : Addr} {fd : FuncData} {ps : List Str} {sp : Sp} {dvs : List V} {ds : List Value} {E : XK} {x m : Str} {p pos apos : Pos} {e o : Expr} {es : List Expr} {ta : TE} {t : TA}
theorem run_fn {pins : List (Addr × Obj)} {σ : St} {H : Hp} {s : Shared} {Q : VK} {us : List Value} {vs : List V} (F : FnOk X.prog X.w X.K X.mg X.base CX k f fd ps sp) (hr : Room k X.A) (hb : Binds X.K fd ps ds) (hd : Vals dvs ds) (hx : Passes CX X E)
    (I : Inv X pins σ H s) (r : Vals vs us) (h : sp (vs ++ dvs) H Q E) : wpAny (model X.prog X.w) X.A (call (.ref f) us) (EP X pins σ Q) X.xe s := by
  have r2 : Vals (vs ++ dvs) (us ++ ds) := r.append hd
  have hl : (us ++ ds).length = ps.length := by rw [← r2.length]; exact F.len _ _ _ _ h
  refine wpAny_call (codeAny_mono (F.run X.A X.stack s H ⟨us, []⟩ (us ++ ds) (vs ++ dvs) Q E hr I.env0 (hb s us I.kIn hl) r2 h) fun r s' hq => ?_)
  cases r with
  | error e => exact hx pins σ H s e s' I hq
  | ok fl =>
    cases fl with
    | ret u => exact I.after hq
    | next => exact False.elim hq
    | brk => exact False.elim hq
    | cont => exact False.elim hq
theorem pe_call (F : FnOk X.prog X.w X.K X.mg X.base CX k f fd ps sp) (hr : Room k X.A) (hg : Gl X x) (hm : X.mg x = some (.ref f)) (hk : PySem.W.keepIn X.K (.ref f) = true) (hb : Binds X.K fd ps ds) (hd : Vals dvs ds) (hx : Passes CX X E)
    (ha : PA X (e :: es) t) (hdb : (x == ("__debug__" : Str)) = false := by decide) (he : starEach (e :: es) X.env = (false, eval e X.env) :: starEach es X.env := by rfl) (hpl : (backTo pos (starEach es X.env)).any (·.1) = false := by rfl) :
    PE X (.Call (.Name x p) (e :: es) [] pos) (tCall sp dvs E t) := by
  intro pins s σ H Q I h
  refine wpAny_Call_Name_kw (ld_glob I hg hm ?_ hdb)
  refine PySem.W.callWith_K (h₀ := X.base) I.ok.mod.kin hk (thn (ha pos pins s σ H _ I h) fun us s1 ⟨vs, H1, I1, r, q⟩ => ⟨I1.kIn, ?_⟩) he hpl
  exact run_fn F hr hb hd hx I1 r q
theorem pe_meth {pl : Sem Bool} (he : PE X o ta) (c : Cls X.K C) (hm : Meth X.K C m f) (F : FnOk X.prog X.w X.K X.mg X.base CX k f fd ps sp) (hr : Room k X.A) (hb : Binds X.K fd ps ds) (hd : Vals dvs ds) (hx : Passes CX X E) (ha : PA X (e :: es) t)
    (hst : starEach (e :: es) X.env = (false, eval e X.env) :: starEach es X.env := by rfl) (hpl : (backTo pos (starEach es X.env)).any (·.1) = false := by rfl)
    (ht : eval (.Call (.Attribute o m apos) (e :: es) [] pos) X.env = (do
      let ov ← eval o X.env
      standAt apos.atName
      let (f, first) ← holding [ov] (getMethod ov m pl)
      callWith pos f first (backTo pos (starEach (e :: es) X.env)) (backToKw pos (keywordEach [] X.env))) := by rfl) :
    PE X (.Call (.Attribute o m apos) (e :: es) [] pos) (tMeth C m sp dvs E ta t) := by
  intro pins s σ H Q I h
  refine PySem.W.methodCall_KW (pl := pl) (thn (he pins s σ H _ I h) fun u s1 ⟨x, H1, I1, rx, a, dx, fs, ex, ea, l, q⟩ => ?_) ht
  subst ex
  obtain rfl : u = Value.ref a := rx
  refine getmeth_ok I1 ea c hm l ?_
  refine PySem.W.callWith_K (first := [.ref a]) (h₀ := X.base) I.ok.mod.kin hm.kp (thn (ha pos pins s1 σ H1 _ I1 q) fun us s2 ⟨vs, H2, I2, r, q2⟩ => ⟨I2.kIn, ?_⟩) hst hpl
  exact run_fn (us := .ref a :: us) (vs := .ref a :: vs) F hr hb hd hx I2 (.cons rfl r) q2
theorem je_meth {pl : Sem Bool} (he : JE X o ta) (c : Cls X.K C) (hm : Meth X.K C m f) (F : FnOk X.prog X.w X.K X.mg X.base CX k f fd ps sp) (hr : Room k X.A) (hb : Binds X.K fd ps ds) (hd : Vals dvs ds) (hx : Passes CX X E) (ha : JA X (e :: es) t) (hst : starEach (e :: es) X.env = (false, eval e X.env) :: starEach es X.env := by rfl) (hpl : (backTo pos (starEach es X.env)).any (·.1) = false := by rfl) (ht : eval (.Call (.Attribute o m apos) (e :: es) [] pos) X.env = (do
      let ov ← eval o X.env
      standAt apos.atName
      let (f, first) ← holding [ov] (getMethod ov m pl)
      callWith pos f first (backTo pos (starEach (e :: es) X.env)) (backToKw pos (keywordEach [] X.env))) := by rfl) : JE X (.Call (.Attribute o m apos) (e :: es) [] pos) (tMeth C m sp dvs E ta t) := .of (pe_meth he.to c hm F hr hb hd hx ha.to hst hpl ht)
theorem pe_meth0 {pl : Sem Bool} (he : PE X o ta) (c : Cls X.K C) (hm : Meth X.K C m f) (F : FnOk X.prog X.w X.K X.mg X.base CX k f fd ps sp) (hr : Room k X.A) (hb : Binds X.K fd ps ds) (hd : Vals dvs ds) (hx : Passes CX X E)
    (ht : eval (.Call (.Attribute o m apos) [] [] pos) X.env = (do
      let ov ← eval o X.env
      standAt apos.atName
      let (f, first) ← holding [ov] (getMethod ov m pl)
      callWith pos f first (backTo pos (starEach [] X.env)) (backToKw pos (keywordEach [] X.env))) := by rfl) :
    PE X (.Call (.Attribute o m apos) [] [] pos) (tMeth C m sp dvs E ta tNil) := by
  intro pins s σ H Q I h
  refine PySem.W.methodCall_KW (pl := pl) (thn (he pins s σ H _ I h) fun u s1 ⟨x, H1, I1, rx, a, dx, fs, ex, ea, l, q⟩ => ?_) ht
  subst ex
  obtain rfl : u = Value.ref a := rx
  refine getmeth_ok I1 ea c hm l ?_
  exact PySem.W.callWith_K0 (first := [.ref a]) I1.kIn hm.kp (run_fn (us := [.ref a]) (vs := [.ref a]) F hr hb hd hx I1 (.cons rfl .nil) q)
theorem je_meth0 {pl : Sem Bool} (he : JE X o ta) (c : Cls X.K C) (hm : Meth X.K C m f) (F : FnOk X.prog X.w X.K X.mg X.base CX k f fd ps sp) (hr : Room k X.A) (hb : Binds X.K fd ps ds) (hd : Vals dvs ds) (hx : Passes CX X E) (ht : eval (.Call (.Attribute o m apos) [] [] pos) X.env = (do
      let ov ← eval o X.env
      standAt apos.atName
      let (f, first) ← holding [ov] (getMethod ov m pl)
      callWith pos f first (backTo pos (starEach [] X.env)) (backToKw pos (keywordEach [] X.env))) := by rfl) : JE X (.Call (.Attribute o m apos) [] [] pos) (tMeth C m sp dvs E ta tNil) := .of (pe_meth0 he.to c hm F hr hb hd hx ht)
structure Mk (K : PySem.W.Frag) (C f : Addr) : Prop where
  makes : PySem.W.makesIn K C = true
  init : PySem.W.findIn K (.ref C) "__init__" = some (some (.ref f))
  fn : PySem.W.isFn K (.ref f) = true
  kp : PySem.W.keepIn K (.ref C) = true
theorem run_make {pins : List (Addr × Obj)} {σ : St} {H : Hp} {s : Shared} {Q : VK} {us : List Value} {vs : List V} (M : Mk X.K C f) (F : FnOk X.prog X.w X.K X.mg X.base CX k f fd ps sp) (hr : Room (k + 1) X.A) (hb : Binds X.K fd ps ds) (hd : Vals dvs ds)
    (hx : Passes CX X E) (I : Inv X pins σ H s) (r : Vals vs us)
    (h : ∀ x dx, H x = none → H dx = none → dx ≠ x → sp (.ref x :: (vs ++ dvs)) (upd (upd H dx (.own x)) x (.ins C dx [])) (fun v H2 => v = .non ∧ Q (.ref x) H2) E) :
    wpAny (model X.prog X.w) X.A (call (.ref C) us) (EP X pins σ Q) X.xe s := by
  have hq := h (s.heap.objs.size + 1) s.heap.objs.size (I.hok.fresh (Nat.le_succ _)) (I.hok.fresh (Nat.le_refl _)) (Nat.ne_of_lt (Nat.lt_succ_self _))
  have I2 := Inv.made (C := C) I
  have r2 : Vals (V.ref (s.heap.objs.size + 1) :: (vs ++ dvs)) (Value.ref (s.heap.objs.size + 1) :: (us ++ ds)) := .cons rfl (r.append hd)
  have hl : (Value.ref (s.heap.objs.size + 1) :: us ++ ds).length = ps.length := by
    have e := r2.length
    rw [F.len _ _ _ _ hq] at e
    exact e.symm
  refine wpAny_call (make_map (f := f) I.kIn M.makes M.init (beq_iff_eq.mp M.fn) (codeAny_mono (F.run _ X.stack _ _ ⟨Value.ref (s.heap.objs.size + 1) :: us, []⟩ (Value.ref (s.heap.objs.size + 1) :: (us ++ ds)) _ _ E (hr.make C us [])
    (I2.env0.make C us []) (hb _ (Value.ref (s.heap.objs.size + 1) :: us) I2.kIn hl) r2 hq) fun r s' hq' => ?_))
  cases r with
  | error e => exact hx pins σ _ _ e s' I2 hq'
  | ok fl =>
    cases fl with
    | ret u =>
      obtain ⟨v, H', I3, rv, ev, q3⟩ := I2.after hq'
      subst ev
      exact ⟨rv, ⟨V.ref (s.heap.objs.size + 1), H', I3, rfl, q3⟩⟩
    | next => exact False.elim hq'
    | brk => exact False.elim hq'
    | cont => exact False.elim hq'
theorem pe_make (M : Mk X.K C f) (F : FnOk X.prog X.w X.K X.mg X.base CX k f fd ps sp) (hr : Room (k + 1) X.A) (hg : Gl X x) (hm : X.mg x = some (.ref C)) (hb : Binds X.K fd ps ds) (hd : Vals dvs ds) (hx : Passes CX X E)
    (ha : PA X (e :: es) t) (hdb : (x == ("__debug__" : Str)) = false := by decide) (he : starEach (e :: es) X.env = (false, eval e X.env) :: starEach es X.env := by rfl) (hpl : (backTo pos (starEach es X.env)).any (·.1) = false := by rfl) :
    PE X (.Call (.Name x p) (e :: es) [] pos) (tMake C sp dvs E t) := by
  intro pins s σ H Q I h
  refine wpAny_Call_Name_kw (ld_glob I hg hm ?_ hdb)
  refine PySem.W.callWith_K (h₀ := X.base) I.ok.mod.kin M.kp (thn (ha pos pins s σ H _ I h) fun us s1 ⟨vs, H1, I1, r, q⟩ => ⟨I1.kIn, ?_⟩) he hpl
  exact run_make M F hr hb hd hx I1 r q
theorem je_make (M : Mk X.K C f) (F : FnOk X.prog X.w X.K X.mg X.base CX k f fd ps sp) (hr : Room (k + 1) X.A) (hg : Gl X x) (hm : X.mg x = some (.ref C)) (hb : Binds X.K fd ps ds) (hd : Vals dvs ds) (hx : Passes CX X E) (ha : JA X (e :: es) t) (hdb : (x == ("__debug__" : Str)) = false := by decide) (he : starEach (e :: es) X.env = (false, eval e X.env) :: starEach es X.env := by rfl) (hpl : (backTo pos (starEach es X.env)).any (·.1) = false := by rfl) : JE X (.Call (.Name x p) (e :: es) [] pos) (tMake C sp dvs E t) := .of (pe_make M F hr hg hm hb hd hx ha.to hdb he hpl)
end
def PK (X : Cx) (kws : List Keyword) (t : TA) : Prop :=
  ∀ (pos : Pos) (pins : List (Addr × Obj)) (s : Shared) (σ : St) (H : Hp) (Q : List V → Hp → Prop), Inv X pins σ H s → t σ H Q → wpAny (model X.prog X.w) X.A (evalAll ((backToKw pos (keywordEach kws X.env)).map (·.2))) (AP X pins σ Q) X.xe s
@[irreducible] def JK (X : Cx) (kws : List Keyword) (t : TA) : Prop := PK X kws t
theorem JK.of {X : Cx} {kws : List Keyword} {t : TA} (h : PK X kws t) : JK X kws t := by unfold JK; exact h
theorem JK.to {X : Cx} {kws : List Keyword} {t : TA} (h : JK X kws t) : PK X kws t := by unfold JK at h; exact h
section
variable {X : Cx} {CX : CXT} {k : Nat} {f C : Addr} {fd : FuncData} {ps ks : List Str} {sp : Sp} {E : XK} {x m : Str} {p pos apos kpos : Pos} {e o : Expr} {es : List Expr} {kws : List Keyword} {te ta : TE} {t tk : TA} {nm : Option Str}
structure KBinds (K : PySem.W.Frag) (fd : FuncData) (ps ks : List Str) (g : List Value → List Value → List Value) (gV : List V → List V → List V) : Prop where
  to : ∀ (s : Shared) (us ws : List Value), K.In s.heap → (g us ws).length = ps.length → BindsTo s fd ⟨us, ks.zip ws⟩ (ps.zip (g us ws))
  rel : ∀ {vs : List V} {us : List Value} {zs : List V} {ws : List Value}, Vals vs us → Vals zs ws → Vals (gV vs zs) (g us ws)
variable {g : List Value → List Value → List Value} {gV : List V → List V → List V}
end
structure FnScope (N P : List Str) (sc : Scope) : Prop where
  kind : sc.kind = .function
  co : sc.isCoroutine = false
  gen : sc.isGenerator = false
  nd : N.Nodup
  pre : N.take P.length = P
  par : ∀ x ∈ P, sc.names.lookup x = some .local ∨ sc.names.lookup x = some .cell
  nofree : ∀ y ∈ sc.names, y.2 ≠ .free
theorem bindL_out {kindOf : Str → Option NameKind} {x : Str} : ∀ {binds : List (Str × Value)} {m : Str → Option Value}, (∀ v, (x, v) ∉ binds) → bindL kindOf binds m x = m x
  | [], _, _ => rfl
  | (n, v) :: r, m, h => by
    unfold bindL
    rw [bindL_out fun w hw => h w (List.mem_cons_of_mem _ hw)]
    split
    · have : x ≠ n := by rintro rfl; exact h v List.mem_cons_self
      simp [this]
    · rfl
theorem bindC_out {kindOf : Str → Option NameKind} {x : Str} : ∀ {binds : List (Str × Value)} {m : Str → Option Value}, (∀ v, (x, v) ∉ binds) → bindC kindOf binds m x = m x
  | [], _, _ => rfl
  | (n, v) :: r, m, h => by
    unfold bindC
    rw [bindC_out fun w hw => h w (List.mem_cons_of_mem _ hw)]
    split
    · rfl
    · have : x ≠ n := by rintro rfl; exact h v List.mem_cons_self
      simp [this]
theorem bindL_get {kindOf : Str → Option NameKind} {x : Str} {v : Value} : ∀ {P : List Str} {vs : List Value} {i : Nat} {m : Str → Option Value}, P.Nodup → P[i]? = some x → vs[i]? = some v → kindOf x = some .local →
    bindL kindOf (P.zip vs) m x = some v
  | [], _, _, _, _, h, _, _ => by simp at h
  | _ :: _, [], _, _, _, _, h, _ => by simp at h
  | p :: P, w :: vs, 0, m, nd, h1, h2, hk => by
    simp at h1 h2; subst h1; subst h2
    show bindL kindOf ((p, w) :: P.zip vs) m p = _
    unfold bindL
    rw [bindL_out fun v hv => (List.nodup_cons.mp nd).1 (List.of_mem_zip hv).1, if_pos hk]
    simp
  | p :: P, w :: vs, i + 1, m, nd, h1, h2, hk => by
    show bindL kindOf ((p, w) :: P.zip vs) m x = _
    unfold bindL
    exact bindL_get (i := i) (List.nodup_cons.mp nd).2 (by simpa using h1) (by simpa using h2) hk
theorem bindC_get {kindOf : Str → Option NameKind} {x : Str} {v : Value} : ∀ {P : List Str} {vs : List Value} {i : Nat} {m : Str → Option Value}, P.Nodup → P[i]? = some x → vs[i]? = some v → kindOf x ≠ some .local →
    bindC kindOf (P.zip vs) m x = some v
  | [], _, _, _, _, h, _, _ => by simp at h
  | _ :: _, [], _, _, _, _, h, _ => by simp at h
  | p :: P, w :: vs, 0, m, nd, h1, h2, hk => by
    simp at h1 h2; subst h1; subst h2
    show bindC kindOf ((p, w) :: P.zip vs) m p = _
    unfold bindC
    rw [bindC_out fun v hv => (List.nodup_cons.mp nd).1 (List.of_mem_zip hv).1, if_neg hk]
    simp
  | p :: P, w :: vs, i + 1, m, nd, h1, h2, hk => by
    show bindC kindOf ((p, w) :: P.zip vs) m x = _
    unfold bindC
    exact bindC_get (i := i) (List.nodup_cons.mp nd).2 (by simpa using h1) (by simpa using h2) hk
def start (N : List Str) (vs : List V) : St := vs.map some ++ List.replicate (N.length - vs.length) none
def cxOf (CX : CXT) (P : Program) (w : World) (K : PySem.W.Frag) (mg : Str → Option Value) (base : Heap) (N : List Str) (qual : Str) (scope : Scope) (f : Addr) (cd : Value) (A : Around) (outer : List Env) (s : Shared) (H : Hp) (E : XK) : Cx where
  prog := P
  w := w
  K := K
  mg := mg
  base := base
  A := A.deeper (envOfC qual scope s.heap.objs.size f cd)
  N := N
  s₀ := s
  H₀ := H
  env := envOfC qual scope s.heap.objs.size f cd
  outer := outer
  stack := envOfC qual scope s.heap.objs.size f cd :: outer
  ex := []
  calm := true
  fn := fun _ => true
  pn := []
  xe := fun e s' => wpAny (model P w) (A.deeper (envOfC qual scope s.heap.objs.size f cd)) (leaving (envOfC qual scope s.heap.objs.size f cd) e) (fun _ s'' => CX outer H s E e s'') (fun e' s'' => CX outer H s E e' s'') s'
theorem cell_has {sc : Scope} {n : Nat} {x : Str} (h : sc.names.lookup x = some .cell) : ∃ c, (cellsFrom n sc.names []).lookup x = some c := by
  have q := PySem.W.cellsFrom_some sc.names n [] (.inl h)
  exact Option.isSome_iff_exists.mp q
theorem inv_start {CX : CXT} {P : Program} {w : World} {K : PySem.W.Frag} {mg : Str → Option Value} {base : Heap} {N ps : List Str} {qual : Str} {scope : Scope} {f : Addr} {cd : Value} {A : Around} {outer : List Env} {s s1 : Shared} {H : Hp} {E : XK} {us : List Value} {vs : List V}
    (S : FnScope N ps scope) (hd : A.handled = none) (e0 : Env0 P w K mg base A outer s H) (hl : vs.length = ps.length) (r : Vals vs us)
    (x : InCallC s s.heap.objs.size (bindL (envOfC qual scope s.heap.objs.size f cd).kindOf (ps.zip us) fun _ => none) (cellsFrom (s.heap.objs.size + 1) scope.names []) (bindC (envOfC qual scope s.heap.objs.size f cd).kindOf (ps.zip us) fun _ => none) s1) :
    Inv (cxOf CX P w K mg base N qual scope f cd A outer s H E) [] (start N vs) H s1 := by
  have hpl : ps.length ≤ N.length := by have := congrArg List.length S.pre; rw [List.length_take] at this; omega
  obtain ⟨h1, tk, rfl, hk⟩ := x.done
  have noA : ∀ b : Addr, b ∉ (cxOf CX P w K mg base N qual scope f cd A outer s H E).ex := fun b z => absurd (show b ∈ ([] : List Addr) from z) (by simp)
  refine ⟨⟨e0.mod, S.kind, rfl, rfl, Nat.le_refl _, fun y z c h1 h2 => ?_, fun y hy => ?_, fun y c _ h => ?_, fun _ => hd, Around.frames_deeper e0.frames, .inr ⟨rfl, rfl⟩, fun b z => absurd z (noA b), e0.bs, e0.bsz, fun b _ _ => noA b, fun b z => absurd z (noA b), e0.funs, e0.frf⟩,
    rfl, e0.bare, Un.kept hk, ⟨_, x.toInCall.ns, fun i y v h1 h2 h3 => ?_⟩, fun y c h => ⟨_, x.cell y c h⟩, e0.hok.fresh (Nat.le_refl _), fun y c h => ?_, fun p hp => absurd (show p ∈ ([] : List (Addr × Obj)) from hp) (by simp), e0.hok.kept hk, ?_⟩
  · exact name_of_addr x.apart (PySem.mem_of_lookup h1) (PySem.mem_of_lookup h2)
  · have hy : scope.names.lookup y = some .cell ∨ scope.names.lookup y = some .free := hy
    rcases hy with hy | hy
    · exact cell_has hy
    · exact absurd rfl (S.nofree _ (PySem.mem_of_lookup hy))
  · exact Nat.le_of_lt (x.above y c (PySem.mem_of_lookup h))
  · have hi : i < vs.length := by
      unfold start at h2
      by_cases hi : i < vs.length
      · exact hi
      · rw [List.getElem?_append_right (by simpa using hi)] at h2
        rw [List.getElem?_replicate] at h2
        split at h2 <;> cases h2
    have ha : vs[i]? = some v := by
      unfold start at h2
      rw [List.getElem?_append_left (by simpa using hi), List.getElem?_map] at h2
      cases e : vs[i]? with
      | none => rw [e] at h2; cases h2
      | some a => rw [e] at h2; cases h2; rfl
    obtain ⟨u, hu, rv⟩ := r.get ha
    have hp : ps[i]? = some y := by
      rw [← S.pre, List.getElem?_take_of_lt (by omega)]; exact h1
    have ndP : ps.Nodup := by rw [← S.pre]; exact S.nd.sublist (List.take_sublist _ _)
    refine ⟨u, rv, ?_⟩
    rcases S.par y (List.mem_of_getElem? hp) with k | k
    · exact .inl ⟨k, bindL_get ndP hp hu k⟩
    · obtain ⟨c, e⟩ := cell_has (n := s.heap.objs.size + 1) k
      refine .inr ⟨.inl k, c, e, ?_⟩
      have q := x.cell y c e
      rw [bindC_get ndP hp hu (by show scope.names.lookup y ≠ _; rw [k]; decide)] at q
      exact q
  · exact e0.hok.fresh (Nat.le_of_lt (x.above y c (PySem.mem_of_lookup h)))
  · unfold start
    show _ = N.length
    rw [List.length_append, List.length_map, List.length_replicate]
    omega
theorem fn_of {CX : CXT} {P : Program} {w : World} {K : PySem.W.Frag} {mg : Str → Option Value} {base : Heap} {k : Nat} {f : Addr} {name qual : Str} {params : Arguments} {body : List Stmt} {scope : Scope} {dV kV doc pm cdv ct oc : Value} {an od : Option Addr}
    {osl : Array (Option Value)} {N ps : List Str} {sp : Sp} (lk : K.lookup f = some ⟨oc, od, .func (PySem.W.fnOf name qual params body scope dV kV doc pm an cdv ct), osl⟩) (hcd : PySem.W.codeIn K cdv qual = true) (S : FnScope N ps scope)
    (len : ∀ vs H Q E, sp vs H Q E → vs.length = ps.length)
    (hbody : ∀ (A : Around) (outer : List Env) (s : Shared) (H : Hp) (vs : List V) (Q : VK) (E : XK), Room k (A.deeper (envOfC qual scope s.heap.objs.size f cdv)) → sp vs H Q E →
      ∃ t, PSs (cxOf CX P w K mg base N qual scope f cdv A outer s H E) body t ∧ t { nx := fun _ H' => Q .non H', rt := Q } (start N vs) H) :
    FnOk P w K mg base CX (k + 1) f (PySem.W.fnOf name qual params body scope dV kV doc pm an cdv ct) ps sp := by
  refine ⟨len, fun A outer s H args us vs Q E hr e0 hb r hsp => ?_⟩
  have hl := len _ _ _ _ hsp
  have KX : K.In s.heap := e0.mod.kin.keeps fun b o e => (e0.bs b o e).1
  have lim : s.heap.NoLimit := e0.mod.nolimit.keeps fun b o e => (e0.bs b o e).1
  have hkind : ∀ y ∈ ps.zip us, scope.names.lookup y.1 = some .local ∨ (scope.names.lookup y.1 = some .cell ∧ ((cellsFrom (s.heap.objs.size + 1) scope.names []).lookup y.1).isSome = true) := fun ⟨n, v⟩ hy => by
    rcases S.par n (List.of_mem_zip hy).1 with q | q
    · exact .inl q
    · exact .inr ⟨q, PySem.W.cellsFrom_some _ _ _ (.inl q)⟩
  refine codeAny_call_function hr.depth (KX _ _ lk) rfl S.co S.gen rfl (PySem.W.codeRec_of KX hcd) (hb _ _ _ _ ?_)
  refine wpAny_newFunctionEnv_cells S.kind hkind fun env he s1 x => ?_
  subst he
  refine ⟨lim.keeps x.toInCall.keep, codeAny_func ?_⟩
  obtain ⟨t, ht, hq⟩ := hbody A outer s H vs Q E (hr.deeper _) hsp
  have I : Inv (cxOf CX P w K mg base N qual scope f cdv A outer s H E) [] (start N vs) H s1 := inv_start S hr.hd e0 hl r x
  refine wpAny_mono (ht [] s1 (start N vs) H _ I hq) (fun fl s' hs => ?_) fun e s' hs => hs
  have fin : ∀ {σ' : St} {H' : Hp} {v : V} {u : Value}, Inv (cxOf CX P w K mg base N qual scope f cdv A outer s H E) [] σ' H' s' → RelV v u → Q v H' → CE outer P w H s Q u s' :=
    fun {σ' H' v u} J rv q => ⟨v, H', J.os, J.bare, J.base, J.hok, rv, q⟩
  cases fl with
  | ret u =>
    obtain ⟨v, σ', H', J, rv, q⟩ := hs
    exact fin J rv q
  | next =>
    obtain ⟨σ', H', J, q⟩ := hs
    exact fin (v := V.non) (u := Value.none) J rfl q
  | brk =>
    obtain ⟨_, _, _, q⟩ := hs
    exact False.elim q
  | cont =>
    obtain ⟨_, _, _, q⟩ := hs
    exact False.elim q
end L2
namespace L2
open PySem PySem.Spec PyProof.Rows
section
variable {X : Cx} {x : Str} {p pos : Pos} {e : Expr} {es : List Expr} {t : TA} {id T : String} {r : List V → Hp → VK → Prop}
def tCB (r : List V → Hp → VK → Prop) (t : TA) : TE := fun σ H Q => t σ H fun vs H1 => r vs H1 Q
theorem pe_callB (hc : CallR X (.builtin id) r) (hg : Gl X x) (hm : X.mg x = none) (hv : bootBuiltins x = some (.builtin id)) (ha : PA X (e :: es) t) (hn : x ≠ "__name__" := by decide) (hdb : (x == ("__debug__" : Str)) = false := by decide)
    (he : starEach (e :: es) X.env = (false, eval e X.env) :: starEach es X.env := by rfl) (hpl : (backTo pos (starEach es X.env)).any (·.1) = false := by rfl) : PE X (.Call (.Name x p) (e :: es) [] pos) (tCB r t) := by
  intro pins s σ H Q I h
  refine wpAny_Call_Name_kw (ld_blt I hg hm hv ?_ hn hdb)
  exact PyProof.Rows.callWith_builtin1 (thn (ha pos pins s σ H _ I h) fun us s1 ⟨vs, H1, I1, r1, q1⟩ => hc pins s1 σ H1 vs us Q I1 r1 q1) he hpl
theorem je_callB (hc : CallR X (.builtin id) r) (hg : Gl X x) (hm : X.mg x = none) (hv : bootBuiltins x = some (.builtin id)) (ha : JA X (e :: es) t) (hn : x ≠ "__name__" := by decide) (hdb : (x == ("__debug__" : Str)) = false := by decide) (he : starEach (e :: es) X.env = (false, eval e X.env) :: starEach es X.env := by rfl) (hpl : (backTo pos (starEach es X.env)).any (·.1) = false := by rfl) : JE X (.Call (.Name x p) (e :: es) [] pos) (tCB r t) := .of (pe_callB hc hg hm hv ha.to hn hdb he hpl)
theorem pe_callTy (hc : CallR X (.type T) r) (hg : Gl X x) (hm : X.mg x = none) (hv : bootBuiltins x = some (.type T)) (ha : PA X (e :: es) t) (hn : x ≠ "__name__" := by decide) (hdb : (x == ("__debug__" : Str)) = false := by decide)
    (he : starEach (e :: es) X.env = (false, eval e X.env) :: starEach es X.env := by rfl) (hpl : (backTo pos (starEach es X.env)).any (·.1) = false := by rfl) : PE X (.Call (.Name x p) (e :: es) [] pos) (tCB r t) := by
  intro pins s σ H Q I h
  refine wpAny_Call_Name_kw (ld_blt I hg hm hv ?_ hn hdb)
  exact PyProof.Rows.callWith_type1 (thn (ha pos pins s σ H _ I h) fun us s1 ⟨vs, H1, I1, r1, q1⟩ => hc pins s1 σ H1 vs us Q I1 r1 q1) he hpl
theorem je_callTy (hc : CallR X (.type T) r) (hg : Gl X x) (hm : X.mg x = none) (hv : bootBuiltins x = some (.type T)) (ha : JA X (e :: es) t) (hn : x ≠ "__name__" := by decide) (hdb : (x == ("__debug__" : Str)) = false := by decide) (he : starEach (e :: es) X.env = (false, eval e X.env) :: starEach es X.env := by rfl) (hpl : (backTo pos (starEach es X.env)).any (·.1) = false := by rfl) : JE X (.Call (.Name x p) (e :: es) [] pos) (tCB r t) := .of (pe_callTy hc hg hm hv ha.to hn hdb he hpl)
end
end L2
namespace HT
open PySem PyProof.Rows
section
open PySem.SeqAt
open PySem.AutoSeq1 (wpAny_loadPart')
open PySem.MeetsSeq PySem.MeetsSeq2 PySem.MeetsSeq3
end
section
variable {prog : Program} {w : World} {A : Around} {E : Value → Shared → Prop} {s : Shared}
def sIx (n d : Nat) : Option Int → Nat
  | none => d
  | some v => if v < 0 then (v + (n : Int)).toNat else min v.toNat n
theorem sIx_none (n d : Nat) : sIx n d none = d := rfl
theorem sIx_nat (n d k : Nat) : sIx n d (some (k : Int)) = min k n := by
  show (if (k : Int) < 0 then ((k : Int) + (n : Int)).toNat else min (k : Int).toNat n) = min k n
  rw [if_neg (by omega), Int.toNat_natCast]
end
end HT
namespace L2
open PySem PySem.Spec PyProof.Rows
abbrev TO := St → Hp → (Option Int → Hp → Prop) → Prop
def PO (X : Cx) (e : Option Expr) (t : TO) : Prop :=
  ∀ (pins : List (Addr × Obj)) (s : Shared) (σ : St) (H : Hp) (Q : Option Int → Hp → Prop), Inv X pins σ H s → t σ H Q →
    wpAny (model X.prog X.w) X.A (evalPart e X.env) (fun u s' => ∃ o H', Inv X pins σ H' s' ∧ IsPart u o ∧ Q o H') X.xe s
@[irreducible] def JO (X : Cx) (e : Option Expr) (t : TO) : Prop := PO X e t
theorem JO.of {X : Cx} {e : Option Expr} {t : TO} (h : PO X e t) : JO X e t := by unfold JO; exact h
theorem JO.to {X : Cx} {e : Option Expr} {t : TO} (h : JO X e t) : PO X e t := by unfold JO at h; exact h
def tNoPart : TO := fun _ H Q => Q none H
def tPart (t : TE) : TO := fun σ H Q => t σ H fun x H1 => ∃ i, x = .int i ∧ Q (some i) H1
theorem intsAre_of {ns : List Int} : ∀ {us : List Value}, Vals (ns.map V.int) us → IntsAre us ns := by
  induction ns with
  | nil => intro us r; rw [List.map_nil] at r; cases r; exact .nil
  | cons n ns ih =>
    intro us r
    rw [List.map_cons] at r
    cases r with
    | cons r1 r2 =>
      obtain ⟨t, e⟩ := r1
      subst e
      exact .cons n t (ih r2)
section
variable {X : Cx} {e : Expr} {te : TE} {lo hi : Option Expr} {tl th : TO} {pos p2 : Pos}
theorem po_none : PO X none tNoPart := by
  intro pins s σ H Q I h
  rw [evalPart_none]
  exact wpAny_pure ⟨none, H, I, .none, h⟩
theorem jo_none  : JO X none tNoPart := .of (po_none )
theorem po_some (h : PE X e te) : PO X (some e) (tPart te) := by
  intro pins s σ H Q I hw
  rw [evalPart_some]
  refine thn (h pins s σ H _ I hw) fun u s1 ⟨x, H1, I1, r1, q1⟩ => ?_
  obtain ⟨i, rfl, q⟩ := q1
  obtain ⟨t, rfl⟩ := r1
  exact ⟨some i, H1, I1, .int i t, q⟩
theorem jo_some (h : JE X e te) : JO X (some e) (tPart te) := .of (po_some h.to)
def SlR (X : Cx) (r : V → Option Int → Option Int → Hp → VK → Prop) : Prop :=
  ∀ (pins : List (Addr × Obj)) (s : Shared) (σ : St) (H : Hp) (x : V) (v vl vu : Value) (lo hi : Option Int) (sl : Addr) (Q : VK), Inv X pins σ H s → RelV x v → s.heap.IsSliceOf sl vl vu .none → IsPart vl lo → IsPart vu hi → r x lo hi H Q →
    ∃ T id, typeLookup (.type T) "__getitem__" = pure (some (.builtin id)) ∧ s.TypeIs v T ∧ wpAny (model X.prog X.w) X.A (getItem v (.ref sl)) (EP X pins σ Q) X.xe s
theorem SlR.or {r r' : V → Option Int → Option Int → Hp → VK → Prop} (h : SlR X r) (h' : SlR X r') : SlR X (fun x lo hi H Q => r x lo hi H Q ∨ r' x lo hi H Q) := by
  intro pins s σ H x v vl vu lo hi sl Q I rx hs pl pu q
  rcases q with q | q
  · exact h pins s σ H x v vl vu lo hi sl Q I rx hs pl pu q
  · exact h' pins s σ H x v vl vu lo hi sl Q I rx hs pl pu q
def tSl (r : V → Option Int → Option Int → Hp → VK → Prop) (te : TE) (tl th : TO) : TE := fun σ H Q => te σ H fun x H1 => tl σ H1 fun l H2 => th σ H2 fun u H3 => r x l u H3 Q
theorem pe_slice {r : V → Option Int → Option Int → Hp → VK → Prop} (hr : SlR X r) (he : PE X e te) (hl : PO X lo tl) (hu : PO X hi th) : PE X (.Subscript e (.Slice lo hi none p2) pos) (tSl r te tl th) := by
  intro pins s σ H Q I h
  refine Subscript_ (thn (he pins s σ H _ I h) fun v s1 ⟨x, H1, I1, r1, q1⟩ => ?_)
  refine wpAny_Slice (thn (hl pins s1 σ H1 _ I1 q1) fun vl s2 ⟨l, H2, I2, pl, q2⟩ => thn (hu pins s2 σ H2 _ I2 q2) fun vu s3 ⟨u, H3, I3, pu, q3⟩ => ?_)
  rw [evalPart_none]
  refine wpAny_pure ?_
  have I4 : Inv X pins σ H3 { s3 with heap := s3.heap.push { cls := .type "slice", data := .fields #[vl, vu, .none] } } := I3.kept (t' := s3.toks) fun b ob q => Heap.get?_push_of_some _ q
  obtain ⟨T, id, hT, ht, hg⟩ := hr pins { s3 with heap := s3.heap.push { cls := .type "slice", data := .fields #[vl, vu, .none] } } σ H3 x v vl vu l u s3.heap.objs.size Q I4 r1 (Heap.IsSliceOf.new ..) pl pu q3
  show wpAny (model X.prog X.w) X.A (subscriptTail e (.Slice lo hi none p2) v (.ref s3.heap.objs.size)) (EP X pins σ Q) X.xe { s3 with heap := s3.heap.push { cls := .type "slice", data := .fields #[vl, vu, .none] } }
  exact tail_any (ops := [.ref s3.heap.objs.size, v]) ht hT hg (by with_unfolding_all rfl)
theorem je_slice {r : V → Option Int → Option Int → Hp → VK → Prop} (hr : SlR X r) (he : JE X e te) (hl : JO X lo tl) (hu : JO X hi th) : JE X (.Subscript e (.Slice lo hi none p2) pos) (tSl r te tl th) := .of (pe_slice hr he.to hl.to hu.to)
def cutV (xs : List V) (lo hi : Option Int) : List V := (xs.drop (HT.sIx xs.length 0 lo)).take (HT.sIx xs.length xs.length hi - HT.sIx xs.length 0 lo)
theorem cutV_length (xs : List V) (lo hi : Option Int) : (cutV xs lo hi).length ≤ xs.length := by
  unfold cutV
  rw [List.length_take, List.length_drop]
  omega
end
end L2
namespace L2
open PySem PySem.Spec PyProof.Rows
def ixN (n : Nat) (i : Int) : Option Nat := if 0 ≤ i then (if i < n then some i.toNat else none) else if -(n : Int) ≤ i then some (i + n).toNat else none
def atI {α : Type} (xs : List α) (i : Int) : Option α := (ixN xs.length i).bind fun j => xs[j]?
theorem ixN_seq {n : Nat} {i : Int} {j : Nat} (h : ixN n i = some j) : seqIndex? i n = some j ∧ j < n ∧ -(n : Int) ≤ i ∧ i < n := by
  unfold ixN at h
  by_cases h0 : 0 ≤ i
  · rw [if_pos h0] at h
    by_cases h1 : i < n
    · rw [if_pos h1] at h
      have e : i.toNat = j := Option.some.inj h
      exact ⟨by rw [seqIndex_of h0 h1, e], by omega, by omega, h1⟩
    · rw [if_neg h1] at h; cases h
  · rw [if_neg h0] at h
    by_cases h1 : -(n : Int) ≤ i
    · rw [if_pos h1] at h
      have e : (i + n).toNat = j := Option.some.inj h
      exact ⟨by rw [seqIndex_neg (by omega) h1, e], by omega, h1, by omega⟩
    · rw [if_neg h1] at h; cases h
theorem atI_get {α : Type} {xs : List α} {i : Int} {v : α} (h : atI xs i = some v) : ∃ j, seqIndex? i xs.length = some j ∧ xs[j]? = some v ∧ j < xs.length ∧ -(xs.length : Int) ≤ i ∧ i < xs.length := by
  unfold atI at h
  cases e : ixN xs.length i with
  | none => rw [e] at h; cases h
  | some j =>
    rw [e] at h
    obtain ⟨h1, h2, h3, h4⟩ := ixN_seq e
    exact ⟨j, h1, h, h2, h3, h4⟩
theorem atI_nat {α : Type} {xs : List α} {j : Nat} {v : α} (h : xs[j]? = some v) : atI xs (j : Int) = some v := by
  have hj : j < xs.length := (List.getElem?_eq_some_iff.mp h).1
  have e : ixN xs.length (j : Int) = some j := by
    unfold ixN
    rw [if_pos (by omega), if_pos (by omega)]; simp
  unfold atI; rw [e]; exact h
def PlainIx (b : Expr) : Prop := ∀ o i, subscripted b false o i = operate [o, i] (getItem o i)
def IxR (X : Cx) (r : R2) : Prop :=
  ∀ (value slice : Expr) (pins : List (Addr × Obj)) (s : Shared) (σ : St) (H : Hp) (x y : V) (v u : Value) (Q : VK), Inv X pins σ H s → RelV x v → RelV y u → r x y H Q →
    subscripted slice false v u = operate [v, u] (getItem v u) → wpAny (model X.prog X.w) X.A (subscriptTail value slice v u) (EP X pins σ Q) X.xe s
def MtR (X : Cx) (id : String) (r : V → List V → Hp → VK → Prop) : Prop :=
  ∀ (pins : List (Addr × Obj)) (s : Shared) (σ : St) (H : Hp) (x : V) (xs : List V) (v : Value) (us : List Value) (Q : VK), Inv X pins σ H s → RelV x v → Vals xs us → r x xs H Q →
    wpAny (model X.prog X.w) X.A (call (.builtin id) (v :: us)) (EP X pins σ Q) X.xe s
section
variable {X : Cx} {a b : Expr} {ta tb : TE} {pos : Pos}
theorem IxR.or {r r' : R2} (h : IxR X r) (h' : IxR X r') : IxR X (fun x y H Q => r x y H Q ∨ r' x y H Q) := by
  intro value slice pins s σ H x y v u Q I rx ry q hs
  rcases q with q | q
  · exact h value slice pins s σ H x y v u Q I rx ry q hs
  · exact h' value slice pins s σ H x y v u Q I rx ry q hs
theorem MtR.or {id : String} {r r' : V → List V → Hp → VK → Prop} (h : MtR X id r) (h' : MtR X id r') : MtR X id (fun x xs H Q => r x xs H Q ∨ r' x xs H Q) := by
  intro pins s σ H x xs v us Q I rx rs q
  rcases q with q | q
  · exact h pins s σ H x xs v us Q I rx rs q
  · exact h' pins s σ H x xs v us Q I rx rs q
theorem pe_ix {r : R2} (hr : IxR X r) (ha : PE X a ta) (hb : PE X b tb) (hs : PlainIx b) : PE X (.Subscript a b pos) (tOp r ta tb) := by
  intro pins s σ H Q I h
  exact Subscript_ (binT ha hb I h fun v u s2 x y H2 I2 rx ry q => hr a b pins s2 σ H2 x y v u Q I2 rx ry q (hs _ _))
theorem je_ix {r : R2} (hr : IxR X r) (ha : JE X a ta) (hb : JE X b tb) (hs : PlainIx b) : JE X (.Subscript a b pos) (tOp r ta tb) := .of (pe_ix hr ha.to hb.to hs)
def rIxL (K : PySem.W.Frag) : R2 := fun x y H Q => ∃ p xs i v, x = .ref p ∧ y = .int i ∧ SqL K H p xs ∧ atI xs i = some v ∧ Q v H
def rIxT (K : PySem.W.Frag) : R2 := fun x y H Q => ∃ p xs i v, x = .ref p ∧ y = .int i ∧ SqT K H p xs ∧ atI xs i = some v ∧ Q v H
def rIxS : R2 := fun x y H Q => ∃ z i c, x = .str z ∧ y = .int i ∧ z.length ≤ sizeLine ∧ atI z.cps.toList i = some c ∧ Q (.str ⟨#[c]⟩) H
theorem ix_list : IxR X (rIxL X.K) := by
  intro value slice pins s σ H x y v u Q I rx ry h hs
  obtain ⟨p, xs, i, z, rfl, rfl, hq, he, q⟩ := h
  cases rx
  obtain ⟨t, rfl⟩ := ry
  obtain ⟨its, r, pl, hz⟩ := I.list hq
  obtain ⟨j, h1, h2, h3, h4, h5⟩ := atI_get he
  obtain ⟨w, ew, rw'⟩ := r.get h2
  have hl := r.length
  have hn := line63
  have fin : EP X pins σ Q w s := ⟨z, H, I, rw', q⟩
  by_cases h0 : 0 ≤ i
  · have hj : i.toNat = j := by
      rw [seqIndex_of h0 h5] at h1
      exact Option.some.inj h1
    exact item_listR pl.isList h0 (by omega) (by rw [hj]; simpa using ew) fin hs
  · have hj : (i + (its.toArray.size : Int)).toNat = j := by
      rw [seqIndex_neg (by omega) h4] at h1
      rw [List.size_toArray, ← hl]
      exact Option.some.inj h1
    exact subscriptTail_builtinR (x := w) pl.isList.typeIs slot_list_getitem.lookup
      (wpAny_getItem_list_neg (Q := fun r s' => r = w ∧ EP X pins σ Q r s') pl.isList (by omega) (by rw [List.size_toArray] <;> omega) (by omega) (by rw [hj]; simpa using ew) ⟨rfl, fin⟩) hs
theorem ix_tup : IxR X (rIxT X.K) := by
  intro value slice pins s σ H x y v u Q I rx ry h hs
  obtain ⟨p, xs, i, z, rfl, rfl, hq, he, q⟩ := h
  cases rx
  obtain ⟨t, rfl⟩ := ry
  obtain ⟨its, r, pl, hz⟩ := I.tuple hq
  obtain ⟨j, h1, h2, h3, h4, h5⟩ := atI_get he
  obtain ⟨w, ew, rw'⟩ := r.get h2
  have hl := r.length
  have hn := line63
  have fin : EP X pins σ Q w s := ⟨z, H, I, rw', q⟩
  exact subscriptTail_builtinR (x := w) pl.typeIs slot_tuple_getitem.lookup
    (getItem_tuple (j := j) (Q := fun r s' => r = w ∧ EP X pins σ Q r s') pl (by omega) (by omega) (by rw [List.size_toArray, ← hl]; exact h1) (by simpa using ew) ⟨rfl, fin⟩) hs
theorem ix_str : IxR X rIxS := by
  intro value slice pins s σ H x y v u Q I rx ry h hs
  obtain ⟨z, i, c, rfl, rfl, hz, he, q⟩ := h
  obtain ⟨t, rfl⟩ := rx
  obtain ⟨t', rfl⟩ := ry
  obtain ⟨j, h1, h2, h3, h4, h5⟩ := atI_get he
  have hl : z.cps.toList.length = z.length := by simp [Str.length]
  rw [hl] at h1 h4 h5
  have hn := line63
  exact tail_any (typeIs_str s z t) slot_str_getitem.lookup (getItem_str (c := c) (by
    have e1 : decide (i < -(2 ^ 63 : Int)) = false := decide_eq_false (by omega)
    have e2 : decide (i ≥ 2 ^ 63) = false := decide_eq_false (by omega)
    rw [e1, e2, Bool.or_false]) (by rw [h1]; simpa using h2) ⟨.str ⟨#[c]⟩, H, I.tok _, ⟨_, rfl⟩, q⟩) hs
theorem mapSeq_set (its : List Value) (n j : Nat) (u : Value) : Obj.mapSeq (·.setIfInBounds j u) { cls := .type "list", data := .seq its.toArray n } = { cls := .type "list", data := .seq (its.set j u).toArray n } := by
  simp [Obj.mapSeq]
theorem Inv.lst {pins : List (Addr × Obj)} {σ : St} {H : Hp} {s : Shared} {p : Addr} {xs : List V} (I : Inv X pins σ H s) (h : H p = some (.lst xs)) :
    ∃ (its : List Value) (n : Nat), Vals xs its ∧ s.heap.get? p = some { cls := .type "list", data := .seq its.toArray n } ∧ xs.length ≤ sizeLine := by
  obtain ⟨z, its, n, r, e⟩ := I.hok p _ h
  exact ⟨its, n, r, e, z⟩
theorem Inv.lstUpd {pins : List (Addr × Obj)} {σ : St} {H : Hp} {s : Shared} {p : Addr} {xs ys : List V} {its its' : List Value} {n n' : Nat} {f : Obj → Obj} (I : Inv X pins σ H s) (h : H p = some (.lst xs))
    (ho : s.heap.get? p = some { cls := .type "list", data := .seq its.toArray n }) (hf : f { cls := .type "list", data := .seq its.toArray n } = { cls := .type "list", data := .seq its'.toArray n' }) (r : Vals ys its') (hz : ys.length ≤ sizeLine) (t : Nat) :
    Inv X pins σ (upd H p (.lst ys)) { s with heap := s.heap.update p f, toks := t } := by
  have e : (s.heap.update p f).get? p = some { cls := .type "list", data := .seq its'.toArray n' } := by
    rw [Heap.get?_update_self f ho (by rw [hf] <;> rfl), hf]
  refine I.write (x := p) (e := p) (by rw [h]; trivial) (.inl rfl) (fun b u hb q => (Heap.get?_update_other _ _ (Ne.symm hb)).trans q) ⟨_, e⟩ ?_
  exact ⟨hz, its', n', r, e⟩
def rSetL : V → V → V → Hp → (Hp → Prop) → Prop := fun o i v H Q => ∃ p xs k j, o = .ref p ∧ i = .int k ∧ H p = some (.lst xs) ∧ ixN xs.length k = some j ∧ Q (upd H p (.lst (xs.set j v)))
theorem set_list : PSet X rSetL := by
  intro pins s σ H o i v ov iv u Q I ro ri rv h
  obtain ⟨p, xs, k, j, rfl, rfl, hp, hj, q⟩ := h
  cases ro
  obtain ⟨t, rfl⟩ := ri
  obtain ⟨its, n, r, ho, hz⟩ := I.lst hp
  obtain ⟨h1, h2, h3, h4⟩ := ixN_seq hj
  have hl := r.length
  have hn := line63
  have I' : Inv X pins σ (upd H p (.lst (xs.set j v))) { s with heap := s.heap.update p (Obj.mapSeq (·.setIfInBounds j u)) } :=
    I.lstUpd hp ho (mapSeq_set its n j u) (r.set rv j) (by rw [List.length_set]; exact hz) s.toks
  by_cases h0 : 0 ≤ k
  · have hk : k.toNat = j := by
      rw [seqIndex_of h0 h4] at h1
      exact Option.some.inj h1
    exact PySem.W.ki_setAt ho h0 (by omega) (by rw [List.size_toArray, ← hl]; exact h4) (by rw [hk]; exact ⟨_, I', q⟩)
  · have hk : (k + (its.toArray.size : Int)).toNat = j := by
      rw [seqIndex_neg (by omega) h3] at h1
      rw [List.size_toArray, ← hl]
      exact Option.some.inj h1
    exact PySem.W.ki_setBack ho (by omega) (by rw [List.size_toArray, ← hl]; exact h3) (by omega) (by rw [hk]; exact ⟨_, I', q⟩)
theorem slice_bounds (lo hi : Option Int) (n : Nat) : (sliceBounds lo hi none n).1 = ((HT.sIx n 0 lo : Nat) : Int) ∧ (sliceBounds lo hi none n).2.1 = ((HT.sIx n n hi : Nat) : Int) ∧ (sliceBounds lo hi none n).2.2 = 1 := by
  refine ⟨?_, ?_, rfl⟩
  · cases lo with
    | none => simp [sliceBounds, HT.sIx]
    | some i =>
      simp only [sliceBounds, HT.sIx, Option.getD_none, show (1 : Int) > 0 by decide, if_true]
      by_cases h : i < 0
      · simp only [h, if_true] <;> omega
      · simp only [h, if_false] <;> omega
  · cases hi with
    | none => simp [sliceBounds, HT.sIx]
    | some i =>
      simp only [sliceBounds, HT.sIx, Option.getD_none, show (1 : Int) > 0 by decide, if_true]
      by_cases h : i < 0
      · simp only [h, if_true] <;> omega
      · simp only [h, if_false] <;> omega
theorem slicePick_cut (its : List Value) (lo hi : Option Int) : slicePick its.toArray lo hi none = ((its.drop (HT.sIx its.length 0 lo)).take (HT.sIx its.length its.length hi - HT.sIx its.length 0 lo)).toArray := by
  obtain ⟨h1, h2, h3⟩ := slice_bounds lo hi its.toArray.size
  unfold slicePick
  rw [h1, h2, h3]
  simp only [sliceRange_one, pick_run, List.size_toArray] <;> rfl
def rSlL (K : PySem.W.Frag) : V → Option Int → Option Int → Hp → VK → Prop := fun x lo hi H Q => ∃ a xs, x = .ref a ∧ SqL K H a xs ∧ ∀ p, H p = none → Q (.ref p) (upd H p (.lst (cutV xs lo hi)))
theorem sl_list : SlR X (rSlL X.K) := by
  intro pins s σ H x v vl vu lo hi sl Q I rx hs pl pu h
  obtain ⟨a, xs, rfl, hx, q⟩ := h
  cases rx
  obtain ⟨its, r, ht, hz⟩ := I.list hx
  have hlen := r.length
  refine ⟨"list", _, slot_list_getitem.lookup, ht.isList.typeIs, ?_⟩
  refine wpAny_getItem_list_slice ht.isList hs pl pu .none (by simp) ?_ (by rw [List.size_toArray] <;> omega)
  rw [slicePick_cut, ← hlen]
  refine ⟨.ref s.heap.objs.size, _, I.laid (t' := s.toks) (o := .lst (cutV xs lo hi)) (fun b ob q => Heap.get?_push_of_some _ q) (Nat.le_refl _) ?_, rfl, q _ (I.hok.fresh (Nat.le_refl _))⟩
  exact ⟨Nat.le_trans (cutV_length xs lo hi) hz, _, 0, (r.drop (HT.sIx xs.length 0 lo)).take (HT.sIx xs.length xs.length hi - HT.sIx xs.length 0 lo), Heap.get?_push_size _ rfl⟩
def flatV : V → Bool
  | .non => true
  | .bl _ => true
  | .int _ => true
  | .str _ => true
  | _ => false
def eqV : V → V → Bool
  | .non, .non => true
  | .bl a, .bl b => a == b
  | .bl a, .int b => (if a then 1 else 0) == b
  | .int a, .bl b => a == (if b then 1 else 0)
  | .int a, .int b => a == b
  | .str a, .str b => a == b
  | _, _ => false
theorem eqAt_V {A : Around} {s : Shared} {y x : V} {u v : Value} (ry : RelV y u) (rx : RelV x v) (fy : flatV y = true) (fx : flatV x = true) : SeqAt.EqAt A s u v (eqV y x) := by
  cases y with
  | non =>
    cases ry
    cases x with
    | non => cases rx; exact SeqAt.EqAt.same _
    | bl b => cases rx; exact SeqAt.EqAt.none_bool b
    | int b => obtain ⟨t, rfl⟩ := rx; exact SeqAt.EqAt.none_int b t
    | str b => obtain ⟨t, rfl⟩ := rx; exact SeqAt.EqAt.none_str b t
    | _ => exact absurd (show false = true from fx) Bool.false_ne_true
  | bl a =>
    cases ry
    cases x with
    | non => cases rx; exact SeqAt.EqAt.bool_none a
    | bl b => cases rx; exact SeqAt.EqAt.bool_bool a b
    | int b => obtain ⟨t, rfl⟩ := rx; exact SeqAt.EqAt.bool_int a b t
    | str b => obtain ⟨t, rfl⟩ := rx; exact SeqAt.EqAt.bool_str a b t
    | _ => exact absurd (show false = true from fx) Bool.false_ne_true
  | int a =>
    obtain ⟨t', rfl⟩ := ry
    cases x with
    | non => cases rx; exact SeqAt.EqAt.int_none a t'
    | bl b => cases rx; exact SeqAt.EqAt.int_bool a t' b
    | int b => obtain ⟨t, rfl⟩ := rx; exact SeqAt.EqAt.int_int a t' b t
    | str b => obtain ⟨t, rfl⟩ := rx; exact SeqAt.EqAt.int_str a t' b t
    | _ => exact absurd (show false = true from fx) Bool.false_ne_true
  | str a =>
    obtain ⟨t', rfl⟩ := ry
    cases x with
    | non => cases rx; exact SeqAt.EqAt.str_none a t'
    | bl b => cases rx; exact SeqAt.EqAt.str_bool a t' b
    | int b => obtain ⟨t, rfl⟩ := rx; exact SeqAt.EqAt.str_int a t' b t
    | str b => obtain ⟨t, rfl⟩ := rx; exact SeqAt.EqAt.str_str a t' b t
    | _ => exact absurd (show false = true from fx) Bool.false_ne_true
  | _ => exact absurd (show false = true from fy) Bool.false_ne_true
def eqU (x : V) (u : Value) : Bool := match u with
  | .none => eqV .non x
  | .bool b => eqV (.bl b) x
  | .int i _ => eqV (.int i) x
  | .str z _ => eqV (.str z) x
  | _ => false
theorem eqU_of {x y : V} {u : Value} (r : RelV y u) (f : flatV y = true) : eqU x u = eqV y x := by
  cases y with
  | non => cases r; rfl
  | bl b => cases r; rfl
  | int i => obtain ⟨t, rfl⟩ := r; rfl
  | str z => obtain ⟨t, rfl⟩ := r; rfl
  | _ => exact absurd (show false = true from f) Bool.false_ne_true
theorem any_eqU {x : V} : ∀ {xs : List V} {us : List Value}, Vals xs us → xs.all flatV = true → us.any (eqU x) = xs.any fun y => eqV y x
  | _, _, .nil, _ => rfl
  | y :: xs, u :: us, .cons r t, f => by
    rw [List.all_cons, Bool.and_eq_true] at f
    rw [List.any_cons, List.any_cons, eqU_of r f.1, any_eqU t f.2]
theorem mem_eqAt {A : Around} {s : Shared} {x : V} {v : Value} (rx : RelV x v) (fx : flatV x = true) : ∀ {xs : List V} {us : List Value}, Vals xs us → xs.all flatV = true → ∀ u ∈ us, SeqAt.EqAt A s u v (eqU x u)
  | _, _, .nil, _ => fun u hu => by cases hu
  | y :: xs, u :: us, .cons r t, f => fun u' hu => by
    rw [List.all_cons, Bool.and_eq_true] at f
    rcases List.mem_cons.mp hu with rfl | hu
    · rw [eqU_of r f.1]; exact eqAt_V r rx f.1 fx
    · exact mem_eqAt rx fx t f.2 u' hu
def inV (x : V) (xs : List V) : Bool := xs.any fun y => eqV y x
def rIn (K : PySem.W.Frag) (neg : Bool) : R2 := fun x y H Q => ∃ p xs, y = .ref p ∧ (SqL K H p xs ∨ SqT K H p xs) ∧ flatV x = true ∧ xs.all flatV = true ∧ Q (.bl (if neg then !inV x xs else inV x xs)) H
theorem op_in_seq : OpR X (compareOp .In) (rIn X.K false) := by
  intro pins s σ H x y v u Q I rx ry h
  obtain ⟨p, xs, rfl, hq, fx, fs, q⟩ := h
  cases ry
  rcases hq with hq | hq
  · obtain ⟨its, r, pl, hz⟩ := I.list hq
    refine SeqAt.in_listAt (eqU x) pl.isList (fun w hw => mem_eqAt rx fx r fs w (by simpa using hw)) ⟨.bl _, H, I, rfl, ?_⟩
    rw [show its.toArray.any (eqU x) = its.any (eqU x) by simp, any_eqU r fs]
    exact q
  · obtain ⟨its, r, pl, hz⟩ := I.tuple hq
    refine SeqAt.in_tupleAt (eqU x) pl (fun w hw => mem_eqAt rx fx r fs w (by simpa using hw)) ⟨.bl _, H, I, rfl, ?_⟩
    rw [show its.toArray.any (eqU x) = its.any (eqU x) by simp, any_eqU r fs]
    exact q
theorem op_notIn_seq : OpR X (compareOp .NotIn) (rIn X.K true) := by
  intro pins s σ H x y v u Q I rx ry h
  obtain ⟨p, xs, rfl, hq, fx, fs, q⟩ := h
  cases ry
  rcases hq with hq | hq
  · obtain ⟨its, r, pl, hz⟩ := I.list hq
    refine SeqAt.notIn_listAt (eqU x) pl.isList (fun w hw => mem_eqAt rx fx r fs w (by simpa using hw)) ⟨.bl _, H, I, rfl, ?_⟩
    rw [show its.toArray.any (eqU x) = its.any (eqU x) by simp, any_eqU r fs]
    exact q
  · obtain ⟨its, r, pl, hz⟩ := I.tuple hq
    refine SeqAt.notIn_tupleAt (eqU x) pl (fun w hw => mem_eqAt rx fx r fs w (by simpa using hw)) ⟨.bl _, H, I, rfl, ?_⟩
    rw [show its.toArray.any (eqU x) = its.any (eqU x) by simp, any_eqU r fs]
    exact q
theorem call_len_seq : CallR X (.builtin "len") (fun xs H Q => ∃ p ys, xs = [.ref p] ∧ (SqL X.K H p ys ∨ SqT X.K H p ys) ∧ Q (.int ys.length) H) := by
  intro pins s σ H xs us Q I r h
  obtain ⟨p, ys, rfl, hq, q⟩ := h
  obtain ⟨u, rfl, rx⟩ := vals1 r
  cases rx
  have hn := line63
  rcases hq with hq | hq
  · obtain ⟨its, r', pl, hz⟩ := I.list hq
    have hlen := r'.length
    exact Calls.call_len_list pl.isList (by simp only [List.size_toArray] <;> omega) ⟨.int ys.length, H, I.tok _, ⟨s.toks + 1, by rw [List.size_toArray, hlen]⟩, q⟩
  · obtain ⟨its, r', pl, hz⟩ := I.tuple hq
    have hlen := r'.length
    exact len_tuple pl (by simp only [List.size_toArray] <;> omega) ⟨.int ys.length, H, I.tok _, ⟨s.toks + 1, by rw [List.size_toArray, hlen]⟩, q⟩
theorem call_len_str : CallR X (.builtin "len") (fun xs H Q => ∃ z, xs = [.str z] ∧ z.length ≤ sizeLine ∧ Q (.int z.length) H) := by
  intro pins s σ H xs us Q I r h
  obtain ⟨z, rfl, hz, q⟩ := h
  obtain ⟨u, rfl, t, rfl⟩ := vals1 r
  have hn := line63
  exact len_str (by omega) ⟨.int z.length, H, I.tok _, ⟨_, rfl⟩, q⟩
theorem CallR.or {f : Value} {r r' : List V → Hp → VK → Prop} (h : CallR X f r) (h' : CallR X f r') : CallR X f (fun xs H Q => r xs H Q ∨ r' xs H Q) := by
  intro pins s σ H xs us Q I rs q
  rcases q with q | q
  · exact h pins s σ H xs us Q I rs q
  · exact h' pins s σ H xs us Q I rs q
theorem call_list_of : CallR X (.type "list") (fun xs H Q => ∃ p ys, xs = [.ref p] ∧ (SqL X.K H p ys ∨ SqT X.K H p ys) ∧ ∀ l, H l = none → Q (.ref l) (upd H l (.lst ys))) := by
  intro pins s σ H xs us Q I r h
  obtain ⟨p, ys, rfl, hq, q⟩ := h
  obtain ⟨u, rfl, rx⟩ := vals1 r
  cases rx
  have fin : ∀ (its : List Value), Vals ys its → ys.length ≤ sizeLine → ∀ (h' : Heap) (c' : Nat), (∀ b o', s.heap.get? b = some o' → h'.get? b = some o') →
      h'.get? s.heap.objs.size = some { cls := .type "list", dict := none, data := .seq its.toArray c', slots := #[] } → EP X pins σ Q (.ref s.heap.objs.size) { s with heap := h' } := fun its r' hz h' c' kp e =>
    ⟨.ref s.heap.objs.size, _, I.laid (t' := s.toks) kp (Nat.le_refl _) (show ObjOk X.prog X.w _ h' _ (.lst ys) from ⟨hz, its, c', r', e⟩), rfl, q _ (I.hok.fresh (Nat.le_refl _))⟩
  rcases hq with hq | hq
  · obtain ⟨its, r', pl, hz⟩ := I.list hq
    have hlen := r'.length
    obtain ⟨o, ho, hc, n, hd⟩ := pl.isList
    exact call_list_seq p (.inl rfl) ho hc hd (fun h' c' kp e => fin its r' hz h' c' kp e) (by simp only [List.size_toArray] <;> omega)
  · obtain ⟨its, r', pl, hz⟩ := I.tuple hq
    have hlen := r'.length
    obtain ⟨o, ho, hc, n, hd⟩ := pl
    exact call_list_seq p (.inr rfl) ho hc hd (fun h' c' kp e => fin its r' hz h' c' kp e) (by simp only [List.size_toArray] <;> omega)
theorem call_tuple_of : CallR X (.type "tuple") (fun xs H Q => ∃ p ys, xs = [.ref p] ∧ ((SqL X.K H p ys ∧ ∀ l, H l = none → Q (.ref l) (upd H l (.tup ys))) ∨ (SqT X.K H p ys ∧ Q (.ref p) H))) := by
  intro pins s σ H xs us Q I r h
  obtain ⟨p, ys, rfl, h⟩ := h
  obtain ⟨u, rfl, rx⟩ := vals1 r
  cases rx
  rcases h with ⟨hq, q⟩ | ⟨hq, q⟩
  · obtain ⟨its, r', pl, hz⟩ := I.list hq
    have hlen := r'.length
    refine call_tuple_list pl.isList (fun h' kp => ?_) (by simp only [List.size_toArray] <;> omega)
    have I1 : Inv X pins σ H { s with heap := h' } := I.kept (t' := s.toks) kp
    have I2 : Inv X pins σ (upd H h'.objs.size (.tup ys)) { s with heap := h'.push { cls := .type "tuple", data := .seq its.toArray } } :=
      I1.laid (t' := s.toks) (fun b o e => Heap.get?_push_of_some _ e) (Nat.le_refl _) (show ObjOk X.prog X.w _ _ _ (.tup ys) from ⟨hz, its, r', IsTup.new _ _⟩)
    exact ⟨.ref h'.objs.size, _, I2, rfl, q _ (I1.hok.fresh (Nat.le_refl _))⟩
  · obtain ⟨its, r', pl, hz⟩ := I.tuple hq
    exact call_tuple_same pl ⟨.ref p, H, I, rfl, q⟩
def tyV (K : PySem.W.Frag) (T : String) (x : V) (H : Hp) : Prop := match x with
  | .str _ => T = "str"
  | .int _ => T = "int"
  | .ref p => (T = "list" ∧ ∃ xs, SqL K H p xs) ∨ (T = "tuple" ∧ ∃ o, K.lookup p = some o ∧ o.cls = .type "tuple" ∧ o.dict = none) ∨
      (T = "dict" ∧ ((∃ kvs, H p = some (.dK kvs)) ∨ ∃ kvs, H p = some (.dT kvs))) ∨ (T = "set" ∧ ∃ S n, H p = some (.set S n))
  | _ => False
theorem tyV_is {pins : List (Addr × Obj)} {σ : St} {H : Hp} {s : Shared} {T : String} {x : V} {v : Value} (I : Inv X pins σ H s) (r : RelV x v) (ty : tyV X.K T x H) :
    s.TypeIs v T ∧ ∀ a, v = .ref a → ∃ ob, s.heap.get? a = some ob ∧ ob.dict = none := by
  cases x with
  | str z =>
    obtain ⟨t, rfl⟩ := r
    cases (show T = "str" from ty)
    exact ⟨typeIs_str s z t, fun _ e => nomatch e⟩
  | int i =>
    obtain ⟨t, rfl⟩ := r
    cases (show T = "int" from ty)
    exact ⟨typeIs_int s i t, fun _ e => nomatch e⟩
  | ref p =>
    cases r
    rcases ty with ⟨rfl, xs, hq⟩ | ⟨rfl, o, hk, hc, hd⟩ | ⟨rfl, hk⟩ | ⟨rfl, S, n, hk⟩
    · obtain ⟨its, _, pl, _⟩ := I.list hq
      refine ⟨pl.isList.typeIs, fun a e => ?_⟩
      cases e
      obtain ⟨o, n, e, c, hd, _⟩ := pl
      exact ⟨o, e, hd⟩
    · refine ⟨⟨o, I.kIn p o hk, hc⟩, fun a e => ?_⟩
      cases e
      exact ⟨o, I.kIn _ o hk, hd⟩
    · have z : ∃ o, s.heap.get? p = some o ∧ o.ExactDict := by
        rcases hk with ⟨kvs, hk⟩ | ⟨kvs, hk⟩
        · obtain ⟨_, _, _, _, o, _, _, e, ex, _⟩ := I.hok p _ hk
          exact ⟨o, e, ex⟩
        · obtain ⟨_, _, _, _, o, _, _, e, ex, _⟩ := I.hok p _ hk
          exact ⟨o, e, ex⟩
      obtain ⟨o, e, ex⟩ := z
      refine ⟨⟨o, e, ex.1⟩, fun a e2 => ?_⟩
      cases e2
      exact ⟨o, e, ex.2.1⟩
    · obtain ⟨o, _, _, _, e, ex, _⟩ := I.hok p _ hk
      refine ⟨⟨o, e, ex.1⟩, fun a e2 => ?_⟩
      cases e2
      exact ⟨o, e, ex.2.1⟩
  | _ => exact False.elim ty
def tBM0 (K : PySem.W.Frag) (T : String) (r : V → List V → Hp → VK → Prop) (to : TE) : TE := fun σ H Q => to σ H fun x H1 => tyV K T x H1 ∧ r x [] H1 Q
def tBM (K : PySem.W.Frag) (T : String) (r : V → List V → Hp → VK → Prop) (to : TE) (t : TA) : TE := fun σ H Q => to σ H fun x H1 => tyV K T x H1 ∧ t σ H1 fun xs H2 => r x xs H2 Q
variable {o e : Expr} {es : List Expr} {to : TE} {t : TA} {name : Str} {apos cpos : Pos} {T id : String} {r : V → List V → Hp → VK → Prop}
theorem pe_bm0 (pa : PlainAttrs T) (slot : Slot T name id) (hty : typeOf (.builtin id) = pure (.type "method_descriptor")) (hm : MtR X id r) (ho : PE X o to)
    (hbase : attributeBase o name X.env (eval o X.env) = eval o X.env := by rfl) (hline : (apos.endLine == cpos.line) = true := by rfl) : PE X (.Call (.Attribute o name apos) [] [] cpos) (tBM0 X.K T r to) := by
  intro pins s σ H Q I h
  refine wpAny_Call_method0_late hbase hline (thn (ho pins s σ H _ I h) fun v s1 ⟨x, H1, I1, r1, ty, q1⟩ => ?_)
  obtain ⟨h1, h2⟩ := tyV_is I1 r1 ty
  exact ⟨T, id, pa, slot, hty, h1, h2, Calls.callWith_builtin rfl (PySem.evalArgs_none (hm pins s1 σ H1 x [] v [] Q I1 r1 .nil q1))⟩
theorem je_bm0 (pa : PlainAttrs T) (slot : Slot T name id) (hty : typeOf (.builtin id) = pure (.type "method_descriptor")) (hm : MtR X id r) (ho : JE X o to) (hbase : attributeBase o name X.env (eval o X.env) = eval o X.env := by rfl) (hline : (apos.endLine == cpos.line) = true := by rfl) : JE X (.Call (.Attribute o name apos) [] [] cpos) (tBM0 X.K T r to) := .of (pe_bm0 pa slot hty hm ho.to hbase hline)
theorem pe_bm (pa : PlainAttrs T) (slot : Slot T name id) (hty : typeOf (.builtin id) = pure (.type "method_descriptor")) (hm : MtR X id r) (ho : PE X o to) (ha : PA X (e :: es) t)
    (hbase : attributeBase o name X.env (eval o X.env) = eval o X.env := by rfl)
    (hfew : ((backTo cpos (starEach (e :: es) X.env)).all (fun x => !x.1) && (backToKw cpos (keywordEach [] X.env)).all (fun x => x.1.isSome)
      && decide ((e :: es).length + ([] : List Keyword).length + (if ([] : List Keyword).isEmpty then 0 else 1) < 30)) = true := by rfl)
    (hline : (apos.endLine == cpos.line) = true := by rfl) (hs : starEach (e :: es) X.env = (false, eval e X.env) :: starEach es X.env := by rfl) (hplain : (backTo cpos (starEach es X.env)).any (·.1) = false := by rfl) :
    PE X (.Call (.Attribute o name apos) (e :: es) [] cpos) (tBM X.K T r to t) := by
  intro pins s σ H Q I h
  refine wpAny_Call_method_late hbase hfew hline rfl (thn (ho pins s σ H _ I h) fun v s1 ⟨x, H1, I1, r1, ty, q1⟩ => ?_)
  obtain ⟨h1, h2⟩ := tyV_is I1 r1 ty
  refine ⟨T, id, pa, slot, hty, h1, h2, ?_⟩
  have hA := ha cpos pins s1 σ H1 _ I1 q1
  rw [hs] at hA ⊢
  refine Calls.callWith_builtin (by show (false || (backTo cpos (starEach es X.env)).any (·.1)) = false; rw [hplain] <;> rfl) (Calls.evalArgs_plain ?_)
  exact thn hA fun us s2 ⟨vs, H2, I2, r2, q2⟩ => hm pins s2 σ H2 x vs v us Q I2 r1 r2 q2
theorem je_bm (pa : PlainAttrs T) (slot : Slot T name id) (hty : typeOf (.builtin id) = pure (.type "method_descriptor")) (hm : MtR X id r) (ho : JE X o to) (ha : JA X (e :: es) t) (hbase : attributeBase o name X.env (eval o X.env) = eval o X.env := by rfl) (hfew : ((backTo cpos (starEach (e :: es) X.env)).all (fun x => !x.1) && (backToKw cpos (keywordEach [] X.env)).all (fun x => x.1.isSome)
      && decide ((e :: es).length + ([] : List Keyword).length + (if ([] : List Keyword).isEmpty then 0 else 1) < 30)) = true := by rfl) (hline : (apos.endLine == cpos.line) = true := by rfl) (hs : starEach (e :: es) X.env = (false, eval e X.env) :: starEach es X.env := by rfl) (hplain : (backTo cpos (starEach es X.env)).any (·.1) = false := by rfl) : JE X (.Call (.Attribute o name apos) (e :: es) [] cpos) (tBM X.K T r to t) := .of (pe_bm pa slot hty hm ho.to ha.to hbase hfew hline hs hplain)
end
end L2
namespace L2
open PySem PySem.Spec PyProof.Rows
def MtM (X : Cx) (id : String) (r : V → List V → Hp → VK → Prop) : Prop :=
  ∀ (pins : List (Addr × Obj)) (s : Shared) (σ : St) (H : Hp) (x : V) (xs : List V) (v : Value) (us : List Value) (Q : VK), Inv X pins σ H s → RelV x v → Vals xs us → r x xs H Q →
    wpAny (model X.prog X.w) X.A (call (.builtin id) (v :: us)) (EP X pins σ Q) X.xe s
theorem Vals.one : ∀ {x : V} {us : List Value}, Vals [x] us → ∃ u, us = [u] ∧ RelV x u
  | _, _, .cons r .nil => ⟨_, rfl, r⟩
theorem Vals.two : ∀ {x y : V} {us : List Value}, Vals [x, y] us → ∃ u v, us = [u, v] ∧ RelV x u ∧ RelV y v
  | _, _, _, .cons r (.cons q .nil) => ⟨_, _, rfl, r, q⟩
theorem Vals.zero : ∀ {us : List Value}, Vals [] us → us = []
  | _, .nil => rfl
theorem Vals.eraseIdx : ∀ {xs : List V} {us : List Value} (i : Nat), Vals xs us → Vals (xs.eraseIdx i) (us.eraseIdx i)
  | _, _, _, .nil => .nil
  | _, _, 0, .cons _ t => t
  | _, _, i + 1, .cons r t => .cons r (Vals.eraseIdx i t)
theorem Vals.reverse {xs : List V} {us : List Value} (h : Vals xs us) : Vals xs.reverse us.reverse := by
  induction h with
  | nil => exact .nil
  | cons r t ih => rw [List.reverse_cons, List.reverse_cons]; exact Vals.append ih (.cons r .nil)
theorem len_erase {α : Type} : ∀ (l : List α) (i : Nat), (l.eraseIdx i).length ≤ l.length
  | [], _ => Nat.le_refl _
  | _ :: _, 0 => Nat.le_succ _
  | _ :: r, i + 1 => Nat.succ_le_succ (len_erase r i)
section
variable {X : Cx} {pins : List (Addr × Obj)} {σ : St} {H : Hp} {s : Shared} {l b : Addr} {xs ys zs : List V}
theorem Inv.lset {its its' : List Value} {n : Nat} {f : Array Value → Array Value} {t' : Nat} (I : Inv X pins σ H s) (hH : H l = some (.lst xs))
    (e : s.heap.get? l = some { cls := .type "list", data := .seq its.toArray n }) (hf : f its.toArray = its'.toArray) (hv : Vals ys its') (hz : ys.length ≤ sizeLine) :
    Inv X pins σ (upd H l (.lst ys)) { s with heap := s.heap.update l (Obj.mapSeq f), toks := t' } := by
  have q := PySem.IsL.update e f
  rw [hf] at q
  refine I.write (x := l) (e := l) (by rw [hH]; exact trivial) (.inl rfl) (fun b' u hb hu => (Heap.get?_update_other s.heap (Obj.mapSeq f) (Ne.symm hb)).trans hu) ⟨_, q⟩ ?_
  exact ⟨hz, its', _, hv, q⟩
theorem Inv.fresh (I : Inv X pins σ H s) : H s.heap.objs.size = none := I.hok.fresh (Nat.le_refl _)
theorem Inv.lstM (I : Inv X pins σ H s) (hH : H l = some (.lst xs)) : xs.length ≤ sizeLine ∧ ∃ (its : List Value) (n : Nat), Vals xs its ∧ xs.length = its.length ∧ s.heap.get? l = some { cls := .type "list", data := .seq its.toArray n } := by
  obtain ⟨z, its, n, r, e⟩ := I.hok l _ hH
  exact ⟨z, its, n, r, r.length, e⟩
theorem notLongL {n : Nat} (h : n ≤ sizeLine) : Builtin.List.listTooLong n = false := by
  unfold Builtin.List.listTooLong
  exact decide_eq_false (by omega)
end
section
variable {X : Cx}
def rAppend : V → List V → Hp → VK → Prop := fun x vs H Q => ∃ l xs y, x = .ref l ∧ vs = [y] ∧ H l = some (.lst xs) ∧ xs.length < sizeLine ∧ Q .non (upd H l (.lst (xs ++ [y])))
theorem mt_append : MtM X "list.append" rAppend := by
  intro pins s σ H x vs v us Q I rx rv h
  obtain ⟨l, xs, y, rfl, rfl, hH, hz, q⟩ := h
  cases rx
  obtain ⟨u, rfl, ru⟩ := rv.one
  obtain ⟨z, its, n, r, hl, e⟩ := I.lstM hH
  refine call_meets F.slot_list_append ⟨_, e, rfl⟩ F.entry_list_append (F.args_list_append_2 _ _) (PySem.list_append l its.toArray n u (by rw [List.size_toArray]; omega)) ⟨e, ?_⟩
  refine ⟨.non, _, I.lset (its' := its ++ [u]) hH e (by simp) (r.append (.cons ru .nil)) ?_, rfl, q⟩
  rw [List.length_append, List.length_singleton]
  omega
def rExtend : V → List V → Hp → VK → Prop := fun x vs H Q => ∃ l b xs zs, x = .ref l ∧ vs = [.ref b] ∧ H l = some (.lst xs) ∧ H b = some (.lst zs) ∧ xs.length + zs.length ≤ sizeLine ∧ Q .non (upd H l (.lst (xs ++ zs)))
theorem mt_extend : MtM X "list.extend" rExtend := by
  intro pins s σ H x vs v us Q I rx rv h
  obtain ⟨l, b, xs, zs, rfl, rfl, hH, hB, hz, q⟩ := h
  cases rx
  obtain ⟨u, rfl, ru⟩ := rv.one
  cases ru
  obtain ⟨z, its, n, r, hl, e⟩ := I.lstM hH
  obtain ⟨z2, its2, n2, r2, hl2, e2⟩ := I.lstM hB
  have hsz : its.toArray.size + its2.toArray.size ≤ sizeLine := by rw [List.size_toArray, List.size_toArray]; omega
  have hlong : ¬ (!its.toArray.isEmpty && Builtin.List.listTooLong (its.toArray.size + its2.toArray.size)) = true := by
    rw [notLongL hsz, Bool.and_false]
    exact Bool.false_ne_true
  refine call_meets F.slot_list_extend ⟨_, e, rfl⟩ F.entry_list_extend (F.args_list_extend_2 _ _)
    (AutoSeq1.list_extend_list_list_0 l its.toArray n b its2.toArray n2 hlong (by rw [List.size_toArray]; omega) (by omega)) ⟨e, e2, ?_⟩
  refine ⟨.non, _, I.lset (its' := its ++ its2) hH e (by simp) (r.append r2) ?_, rfl, q⟩
  rw [List.length_append]
  omega
def rPopAt : V → List V → Hp → VK → Prop := fun x vs H Q => ∃ l xs i k y, x = .ref l ∧ vs = [.int i] ∧ H l = some (.lst xs) ∧ -(2 ^ 63) ≤ i ∧ i < 2 ^ 63 ∧ seqIndex? i xs.length = some k ∧ xs[k]? = some y ∧ Q y (upd H l (.lst (xs.eraseIdx k)))
theorem mt_popAt : MtM X "list.pop" rPopAt := by
  intro pins s σ H x vs v us Q I rx rv h
  obtain ⟨l, xs, i, k, y, rfl, rfl, hH, h1, h2, hk, hy, q⟩ := h
  cases rx
  obtain ⟨u, rfl, ru⟩ := rv.one
  obtain ⟨t, rfl⟩ := ru
  obtain ⟨z, its, n, r, hl, e⟩ := I.lstM hH
  obtain ⟨w, hw, rw'⟩ := r.get hy
  refine call_meets F.slot_list_pop ⟨_, e, rfl⟩ F.entry_list_pop (F.args_list_pop_2 _ _)
    (MeetsSeq.list_pop_at l its.toArray n i t k w (fitsIndex_both h1 h2) (by rw [List.size_toArray, ← hl]; exact hk) (by rw [← Array.getElem?_toList]; exact hw) (by rw [List.size_toArray]; omega)) ⟨e, ?_⟩
  refine ⟨y, _, I.lset (its' := its.eraseIdx k) hH e ?_ (r.eraseIdx k) ?_, rw', q⟩
  · show its.toArray.eraseIdxIfInBounds k = (its.eraseIdx k).toArray
    rw [List.eraseIdxIfInBounds_toArray]
  · have := len_erase xs k
    omega
def rReverse : V → List V → Hp → VK → Prop := fun x vs H Q => ∃ l xs, x = .ref l ∧ vs = [] ∧ H l = some (.lst xs) ∧ Q .non (upd H l (.lst xs.reverse))
theorem mt_reverse : MtM X "list.reverse" rReverse := by
  intro pins s σ H x vs v us Q I rx rv h
  obtain ⟨l, xs, rfl, rfl, hH, q⟩ := h
  cases rx
  have hus := rv.zero
  subst hus
  obtain ⟨z, its, n, r, hl, e⟩ := I.lstM hH
  refine call_meets F.slot_list_reverse ⟨_, e, rfl⟩ F.entry_list_reverse (F.args_list_reverse_1 _) (AutoSeq1.list_reverse_list_0 l its.toArray n (by rw [List.size_toArray]; omega)) ⟨e, ?_⟩
  refine ⟨.non, _, I.lset (its' := its.reverse) hH e (by simp) r.reverse ?_, rfl, q⟩
  rw [List.length_reverse]
  omega
end
section
variable {prog : Program} {w : World} {A : Around} {E : Value → Shared → Prop} {s : Shared}
set_option maxRecDepth 100000 in
end
section
variable {X : Cx}
end
end L2
namespace L2
open PySem PySem.Spec PyProof.Rows
section
variable {κ : Type} [DecidableEq κ]
def valV (kvs : List (κ × V)) (k : κ) : Option V := (kvs.find? fun kv => decide (kv.1 = k)).map (·.2)
def putK (kvs : List (κ × V)) (k : κ) (v : V) : List (κ × V) :=
  if (kvs.any fun kv => decide (kv.1 = k)) = true then kvs.map (fun kv => if kv.1 = k then (kv.1, v) else kv) else kvs ++ [(k, v)]
def dropK (kvs : List (κ × V)) (k : κ) : List (κ × V) := kvs.filter fun kv => decide (kv.1 ≠ k)
theorem valV_pos {p : κ × V} {r : List (κ × V)} {k : κ} (e : p.1 = k) : valV (p :: r) k = some p.2 := by simp [valV, List.find?_cons, e]
theorem valV_neg {p : κ × V} {r : List (κ × V)} {k : κ} (e : ¬ p.1 = k) : valV (p :: r) k = valV r k := by simp [valV, List.find?_cons, e]
theorem valV_any (k : κ) : ∀ kvs : List (κ × V), (kvs.any fun kv => decide (kv.1 = k)) = (valV kvs k).isSome
  | [] => rfl
  | p :: r => by
    rw [List.any_cons]
    by_cases e : p.1 = k
    · simp only [valV_pos e, decide_eq_true e, Bool.true_or, Option.isSome_some]
    · rw [valV_neg e, decide_eq_false e, Bool.false_or]; exact valV_any k r
theorem valV_map (k j : κ) (y : V) : ∀ kvs : List (κ × V), valV (kvs.map fun kv => if kv.1 = k then (kv.1, y) else kv) j = (valV kvs j).map fun x => if j = k then y else x
  | [] => rfl
  | p :: r => by
    have ih := valV_map k j y r
    rw [List.map_cons]
    by_cases h : p.1 = k
    · rw [if_pos h]
      by_cases e : p.1 = j
      · rw [valV_pos (p := (p.1, y)) e, valV_pos e, Option.map_some, if_pos (e.symm.trans h)]
      · rw [valV_neg (p := (p.1, y)) e, valV_neg e, ih]
    · rw [if_neg h]
      by_cases e : p.1 = j
      · rw [valV_pos (p := p) e, valV_pos e, Option.map_some, if_neg (fun z => h (e.trans z))]
      · rw [valV_neg (p := p) e, valV_neg e, ih]
theorem valV_snoc (k j : κ) (y : V) : ∀ kvs : List (κ × V), valV kvs k = none → valV (kvs ++ [(k, y)]) j = if j = k then some y else valV kvs j
  | [], _ => by
    by_cases e : k = j
    · rw [if_pos e.symm]; exact valV_pos (p := (k, y)) e
    · rw [if_neg (fun z => e z.symm)]; exact valV_neg (p := (k, y)) e
  | p :: r, hn => by
    rw [List.cons_append]
    have hk : ¬ p.1 = k := fun z => by rw [valV_pos z] at hn; cases hn
    rw [valV_neg hk] at hn
    have ih := valV_snoc k j y r hn
    by_cases e : p.1 = j
    · rw [valV_pos e, valV_pos e, if_neg (fun z => hk (e.trans z))]
    · rw [valV_neg e, valV_neg e, ih]
theorem valV_put (kvs : List (κ × V)) (k j : κ) (y : V) : valV (putK kvs k y) j = if j = k then some y else valV kvs j := by
  unfold putK
  by_cases a : (kvs.any fun kv => decide (kv.1 = k)) = true
  · rw [if_pos a, valV_map]
    rw [valV_any] at a
    by_cases e : j = k
    · obtain ⟨x, hx⟩ := Option.isSome_iff_exists.mp a
      rw [if_pos e, e, hx, Option.map_some, if_pos rfl]
    · rw [if_neg e]
      cases valV kvs j with
      | none => rfl
      | some x => rw [Option.map_some, if_neg e]
  · rw [if_neg a]
    refine valV_snoc k j y kvs ?_
    rw [valV_any] at a
    cases q : valV kvs k with
    | none => rfl
    | some x => rw [q] at a; exact (a rfl).elim
theorem length_putK (kvs : List (κ × V)) (k : κ) (v : V) : (putK kvs k v).length ≤ kvs.length + 1 := by
  unfold putK
  split
  · rw [List.length_map]; omega
  · rw [List.length_append, List.length_cons, List.length_nil]; omega
theorem putK_new {kvs : List (κ × V)} {k : κ} (v : V) (h : valV kvs k = none) : putK kvs k v = kvs ++ [(k, v)] := by
  unfold putK
  rw [valV_any, h]
  exact if_neg (by decide)
theorem RelO.isSome_eq {o : Option V} {u : Option Value} (r : RelO o u) : o.isSome = u.isSome := by
  cases o with
  | none => cases u with
    | none => rfl
    | some _ => exact (show False from r).elim
  | some _ => cases u with
    | none => exact (show False from r).elim
    | some _ => rfl
theorem RelO.getD {o : Option V} {u : Option Value} {d : V} {d' : Value} (r : RelO o u) (rd : RelV d d') : RelV (o.getD d) (u.getD d') := by
  cases o with
  | none => cases u with
    | none => exact rd
    | some _ => exact (show False from r).elim
  | some _ => cases u with
    | none => exact (show False from r).elim
    | some _ => exact r
theorem KV.val {kvs : List (κ × V)} {vs : List (κ × Value)} (r : KV kvs vs) (k : κ) : RelO (valV kvs k) (valueAt vs k) := by
  unfold KV at r
  induction r with
  | nil => exact True.intro
  | @cons p q ps qs h t ih =>
    obtain ⟨h1, h2⟩ := h
    by_cases e : p.1 = k
    · have e' : q.1 = k := h1.symm.trans e
      have b : valueAt (q :: qs) k = some q.2 := by simp [valueAt, List.find?_cons, e']
      rw [valV_pos e, b]; exact h2
    · have e' : ¬ q.1 = k := fun z => e (h1.trans z)
      have b : valueAt (q :: qs) k = valueAt qs k := by simp [valueAt, List.find?_cons, e']
      rw [valV_neg e, b]; exact ih
theorem KV.any {kvs : List (κ × V)} {vs : List (κ × Value)} (r : KV kvs vs) (k : κ) : (kvs.any fun kv => decide (kv.1 = k)) = vs.any fun kv => decide (kv.1 = k) := by
  unfold KV at r
  induction r with
  | nil => rfl
  | cons h t ih => rw [List.any_cons, List.any_cons, ih, h.1]
theorem KV.repl {kvs : List (κ × V)} {vs : List (κ × Value)} (r : KV kvs vs) (k : κ) {y : V} {u : Value} (ry : RelV y u) :
    KV (kvs.map fun kv => if kv.1 = k then (kv.1, y) else kv) (vs.map fun kv => if kv.1 = k then (kv.1, u) else kv) := by
  unfold KV at r ⊢
  induction r with
  | nil => exact .nil
  | @cons p q ps qs h t ih =>
    rw [List.map_cons, List.map_cons]
    refine .cons ?_ ih
    obtain ⟨h1, h2⟩ := h
    by_cases e : p.1 = k
    · rw [if_pos e, if_pos (h1.symm.trans e)]; exact ⟨h1, ry⟩
    · rw [if_neg e, if_neg (fun z => e (h1.trans z))]; exact ⟨h1, h2⟩
theorem KV.put {kvs : List (κ × V)} {vs : List (κ × Value)} (r : KV kvs vs) (k : κ) {y : V} {u : Value} (ry : RelV y u) : KV (putK kvs k y) (stored vs k u) := by
  unfold putK stored
  rw [r.any k]
  by_cases e : (vs.any fun kv => decide (kv.1 = k)) = true
  · rw [if_pos e, if_pos e]; exact r.repl k ry
  · rw [if_neg e, if_neg e]; exact Paired.snoc r ⟨rfl, ry⟩
theorem KV.drop {kvs : List (κ × V)} {vs : List (κ × Value)} (r : KV kvs vs) (k : κ) : KV (dropK kvs k) (without vs k) := by
  unfold KV at r ⊢
  unfold dropK without
  induction r with
  | nil => exact .nil
  | @cons p q ps qs h t ih =>
    obtain ⟨h1, h2⟩ := h
    rw [List.filter_cons, List.filter_cons]
    by_cases e : p.1 = k
    · have a : ¬ decide (p.1 ≠ k) = true := by simp [e]
      have b : ¬ decide (q.1 ≠ k) = true := by simp [h1.symm.trans e]
      rw [if_neg a, if_neg b]; exact ih
    · have e' : ¬ q.1 = k := fun z => e (h1.trans z)
      have a : decide (p.1 ≠ k) = true := by simp [e]
      have b : decide (q.1 ≠ k) = true := by simp [e']
      rw [if_pos a, if_pos b]; exact .cons ⟨h1, h2⟩ ih
theorem KV.keys {kvs : List (κ × V)} {vs : List (κ × Value)} (r : KV kvs vs) : kvs.map (·.1) = vs.map (·.1) := by
  unfold KV at r
  induction r with
  | nil => rfl
  | cons h t ih => rw [List.map_cons, List.map_cons, ih, h.1]
theorem KV.length {kvs : List (κ × V)} {vs : List (κ × Value)} (r : KV kvs vs) : kvs.length = vs.length := Paired.length r
theorem dropK_le (kvs : List (κ × V)) (k : κ) : (dropK kvs k).length ≤ kvs.length := List.length_filter_le _ _
end
theorem kV_is {P : Program} {w : World} {k : Key} {u : Value} (r : RelV (kV k) u) : (mixKind P w).is k u = true := by
  cases k with
  | inl i => obtain ⟨t, e⟩ := (show ∃ t, u = Value.int i t from r); subst e; exact mixKind_int P w i t
  | inr x => obtain ⟨t, e⟩ := (show ∃ t, u = Value.str x t from r); subst e; exact mixKind_str P w x t
theorem items_are {P : Program} {w : World} : ∀ {ks : List Key} {us : List Value}, Vals (ks.map kV) us → ItemsAre (mixKind P w) ks us
  | [], _, r => by rw [List.map_nil] at r; cases r; exact .nil
  | k :: ks, _, r => by
    rw [List.map_cons] at r
    cases r with
    | cons h t => exact .cons (kV_is h) (items_are t)
abbrev KT (H : Hp) : List (List Key × V) → List (List Key × Addr × Value) → Prop := Paired fun p q => p.1 = q.1 ∧ H q.2.1 = some (.tup (p.1.map kV)) ∧ RelV p.2 q.2.2
theorem KT.val {H : Hp} {kvs : List (List Key × V)} {xs : List (List Key × Addr × Value)} (r : KT H kvs xs) (k : List Key) : RelO (valV kvs k) ((atKey xs k).map (·.2)) := by
  induction r with
  | nil => exact True.intro
  | @cons p q ps qs h t ih =>
    obtain ⟨h1, _, h2⟩ := h
    by_cases e : p.1 = k
    · have e' : q.1 = k := h1.symm.trans e
      have b : atKey (q :: qs) k = some q.2 := by simp [atKey, List.find?_cons, e']
      rw [valV_pos e, b]; exact h2
    · have e' : ¬ q.1 = k := fun z => e (h1.trans z)
      have b : atKey (q :: qs) k = atKey qs k := by simp [atKey, List.find?_cons, e']
      rw [valV_neg e, b]; exact ih
theorem KT.repl {H : Hp} {kvs : List (List Key × V)} {xs : List (List Key × Addr × Value)} (r : KT H kvs xs) (k : List Key) {y : V} {u : Value} (ry : RelV y u) :
    KT H (kvs.map fun kv => if kv.1 = k then (kv.1, y) else kv) (xs.map (putAt k u)) := by
  induction r with
  | nil => exact .nil
  | @cons p q ps qs h t ih =>
    rw [List.map_cons, List.map_cons]
    refine .cons ?_ ih
    obtain ⟨h1, h2, h3⟩ := h
    unfold putAt
    by_cases e : p.1 = k
    · rw [if_pos e, if_pos (h1.symm.trans e)]; exact ⟨h1, h2, ry⟩
    · rw [if_neg e, if_neg (fun z => e (h1.trans z))]; exact ⟨h1, h2, h3⟩
theorem KT.put {H : Hp} {kvs : List (List Key × V)} {xs : List (List Key × Addr × Value)} (r : KT H kvs xs) (k : List Key) {b : Addr} {y : V} {u : Value} (hb : H b = some (.tup (k.map kV))) (ry : RelV y u) :
    KT H (putK kvs k y) (storedH xs k b u) := by
  have e : (kvs.any fun kv => decide (kv.1 = k)) = (atKey xs k).isSome := by
    rw [valV_any, (r.val k).isSome_eq, Option.isSome_map]
  unfold putK storedH
  rw [e]
  by_cases q : (atKey xs k).isSome = true
  · rw [if_pos q, if_pos q]; exact r.repl k ry
  · rw [if_neg q, if_neg q]; exact Paired.snoc r ⟨rfl, hb, ry⟩
theorem KT.keeps {H H' : Hp} {kvs : List (List Key × V)} {xs : List (List Key × Addr × Value)} (r : KT H kvs xs) (ht : ∀ b ys, H b = some (.tup ys) → H' b = some (.tup ys)) : KT H' kvs xs :=
  Paired.mapP r fun _ _ z => ⟨z.1, ht _ _ z.2.1, z.2.2⟩
section
variable {P : Program} {w : World} {H : Hp} {h : Heap} {a : Addr}
theorem rd_of {u : HO} (ok : HOk P w H h) (e : Rd H a u) : ObjOk P w H h a u := e.ok ok
theorem dk_rd {kvs : List (Key × V)} (ok : HOk P w H h) (e : Rd H a (.dK kvs)) : kvs.length ≤ sizeLine ∧ (a == sysModules) = false ∧ ∃ vs, KV kvs vs ∧ h.DictOf (mixKind P w) a vs :=
  show ObjOk P w H h a (.dK kvs) from rd_of ok e
theorem dk_of {kvs : List (Key × V)} (ok : HOk P w H h) (e : H a = some (.dK kvs)) : kvs.length ≤ sizeLine ∧ (a == sysModules) = false ∧ ∃ vs, KV kvs vs ∧ h.DictOf (mixKind P w) a vs := dk_rd ok (.inl e)
theorem key_of {ks : List Key} (ok : HOk P w H h) (e : H a = some (.tup (ks.map kV))) : (tupleKind (mixKind P w)).is h ks a := by
  obtain ⟨_, its, r, o, h1, h2, n, h3⟩ := (show ObjOk P w H h a (.tup (ks.map kV)) from ok a _ e)
  exact ⟨o, its.toArray, n, h1, h2, h3, by simpa using items_are r⟩
theorem dt_rd {kvs : List (List Key × V)} (ok : HOk P w H h) (e : Rd H a (.dT kvs)) : kvs.length ≤ sizeLine ∧ (a == sysModules) = false ∧
    ∃ xs, KT H kvs xs ∧ h.DictOfH (tupleKind (mixKind P w)) a xs := by
  obtain ⟨z, y, xs, r, o, es, ep, h1, h2, h3, h4, h5⟩ := (show ObjOk P w H h a (.dT kvs) from rd_of ok e)
  refine ⟨z, y, xs, r, o, es, ep, h1, h2, h3, h4, fun x hx => ?_, h5⟩
  have all : ∀ {l : List (List Key × V)} {m : List (List Key × Addr × Value)}, KT H l m → ∀ x ∈ m, (tupleKind (mixKind P w)).is h x.1 x.2.1 := by
    intro l m q
    induction q with
    | nil => intro x hx; exact nomatch hx
    | @cons p q ps qs hq t ih =>
      intro x hx
      rcases List.mem_cons.mp hx with e | hx
      · subst e
        exact key_of ok (by rw [← hq.1]; exact hq.2.1)
      · exact ih x hx
  exact all r x hx
theorem dt_of {kvs : List (List Key × V)} (ok : HOk P w H h) (e : H a = some (.dT kvs)) : kvs.length ≤ sizeLine ∧ (a == sysModules) = false ∧
    ∃ xs, KT H kvs xs ∧ h.DictOfH (tupleKind (mixKind P w)) a xs := dt_rd ok (.inl e)
end
def DGet (H : Hp) (a : Addr) (y : V) (r : Option V) : Prop :=
  (∃ kvs k, Rd H a (.dK kvs) ∧ y = kV k ∧ r = valV kvs k) ∨ ∃ kvs k b, Rd H a (.dT kvs) ∧ y = .ref b ∧ H b = some (.tup (k.map kV)) ∧ r = valV kvs k
def DPut (H : Hp) (a : Addr) (y v : V) (H' : Hp) : Prop :=
  (∃ kvs k, H a = some (.dK kvs) ∧ y = kV k ∧ kvs.length < sizeLine ∧ H' = upd H a (.dK (putK kvs k v))) ∨
  ∃ kvs k b, H a = some (.dT kvs) ∧ y = .ref b ∧ H b = some (.tup (k.map kV)) ∧ kvs.length < sizeLine ∧ H' = upd H a (.dT (putK kvs k v))
theorem DGet.k {H : Hp} {a : Addr} {kvs : List (Key × V)} {k : Key} (e : H a = some (.dK kvs)) : DGet H a (kV k) (valV kvs k) := .inl ⟨kvs, k, .inl e, rfl, rfl⟩
theorem DGet.t {H : Hp} {a b : Addr} {kvs : List (List Key × V)} {k : List Key} (e : H a = some (.dT kvs)) (eb : H b = some (.tup (k.map kV))) : DGet H a (.ref b) (valV kvs k) := .inr ⟨kvs, k, b, .inl e, rfl, eb, rfl⟩
theorem DPut.k {H : Hp} {a : Addr} {kvs : List (Key × V)} {k : Key} {v : V} (e : H a = some (.dK kvs)) (hl : kvs.length < sizeLine) : DPut H a (kV k) v (upd H a (.dK (putK kvs k v))) := .inl ⟨kvs, k, e, rfl, hl, rfl⟩
theorem DPut.t {H : Hp} {a b : Addr} {kvs : List (List Key × V)} {k : List Key} {v : V} (e : H a = some (.dT kvs)) (eb : H b = some (.tup (k.map kV))) (hl : kvs.length < sizeLine) :
    DPut H a (.ref b) v (upd H a (.dT (putK kvs k v))) := .inr ⟨kvs, k, b, e, rfl, eb, hl, rfl⟩
section
variable {X : Cx} {pins : List (Addr × Obj)} {σ : St} {H : Hp} {s : Shared} {a : Addr} {y v : V} {u r : Value} {o : Option V} {A : Around} {E : Value → Shared → Prop}
theorem Inv.big (I : Inv X pins σ H s) : sysModules < s.heap.objs.size := by
  have h : mainGlobals < s.heap.objs.size := (I.mod.glob.keeps I.bk).lt
  exact Nat.lt_trans (by decide) h
theorem d_getItem {Q : Value → Shared → Prop} (hu : A.units + 1 < cLine) (I : Inv X pins σ H s) (g : DGet H a y (some v)) (ry : RelV y u) (h : ∀ w' s', Inv X pins σ H s' → RelV v w' → Q w' s') :
    wpAny (model X.prog X.w) A (getItem (.ref a) u) Q E s := by
  rcases g with ⟨kvs, k, e, ey, l⟩ | ⟨kvs, k, b, e, ey, eb, l⟩
  · subst ey
    obtain ⟨z, hd, vs, rel, dd⟩ := dk_rd I.hok e
    obtain ⟨w', hw, rw'⟩ := RelO.some_of (v := v) (o := valueAt vs k) (by rw [l]; exact rel.val k)
    exact wpAny_getItem_of (kV_is ry) dd.mapOf hw (h w' _ (I.tok _) rw')
  · subst ey
    cases (show u = Value.ref b from ry)
    obtain ⟨z, hd, xs, rel, dd⟩ := dt_rd I.hok e
    obtain ⟨w', hw, rw'⟩ := RelO.some_of (v := v) (o := (atKey xs k).map (·.2)) (by rw [l]; exact rel.val k)
    obtain ⟨p, hp, hp2⟩ := Option.map_eq_some_iff.mp hw
    refine wpAny_getItem_heap (tupleKind_room_in1 hu) (key_of I.hok eb) dd hp ?_
    rw [hp2]
    exact h w' _ (I.tok _) rw'
theorem d_in {Q : Value → Shared → Prop} (hu : A.units + 1 < cLine) (I : Inv X pins σ H s) (g : DGet H a y o) (ry : RelV y u) (h : ∀ s', Inv X pins σ H s' → Q (.bool o.isSome) s') :
    wpAny (model X.prog X.w) A (compareOp .In u (.ref a)) Q E s := by
  rcases g with ⟨kvs, k, e, ey, l⟩ | ⟨kvs, k, b, e, ey, eb, l⟩
  · subst ey
    obtain ⟨z, hd, vs, rel, dd⟩ := dk_rd I.hok e
    refine wpAny_in_of (kV_is ry) hd dd.mapOf ?_
    rw [← (rel.val k).isSome_eq, ← l]
    exact h _ (I.tok _)
  · subst ey
    cases (show u = Value.ref b from ry)
    obtain ⟨z, hd, xs, rel, dd⟩ := dt_rd I.hok e
    refine wpAny_in_heap (tupleKind_room_in1 hu) (key_of I.hok eb) hd dd ?_
    have q := (rel.val k).isSome_eq
    rw [Option.isSome_map] at q
    rw [← q, ← l]
    exact h _ (I.tok _)
theorem d_notIn {Q : Value → Shared → Prop} (hu : A.units + 1 < cLine) (I : Inv X pins σ H s) (g : DGet H a y o) (ry : RelV y u) (h : ∀ s', Inv X pins σ H s' → Q (.bool (!o.isSome)) s') :
    wpAny (model X.prog X.w) A (compareOp .NotIn u (.ref a)) Q E s := by
  rcases g with ⟨kvs, k, e, ey, l⟩ | ⟨kvs, k, b, e, ey, eb, l⟩
  · subst ey
    obtain ⟨z, hd, vs, rel, dd⟩ := dk_rd I.hok e
    refine wpAny_notIn_of (kV_is ry) hd dd.mapOf ?_
    rw [← (rel.val k).isSome_eq, ← l]
    exact h _ (I.tok _)
  · subst ey
    cases (show u = Value.ref b from ry)
    obtain ⟨z, hd, xs, rel, dd⟩ := dt_rd I.hok e
    refine wpAny_notIn_heap (tupleKind_room_in1 hu) (key_of I.hok eb) hd dd ?_
    have q := (rel.val k).isSome_eq
    rw [Option.isSome_map] at q
    rw [← q, ← l]
    exact h _ (I.tok _)
theorem d_write {h' : Heap} {t' : Nat} {ob : HO} (I : Inv X pins σ H s) (mu : Mut (H a)) (hs : Heap.SameBut a s.heap h') (he : ∃ q, h'.get? a = some q) (new : ObjOk X.prog X.w (upd H a ob) h' a ob) :
    Inv X pins σ (upd H a ob) { s with heap := h', toks := t' } :=
  I.write (x := a) (e := a) mu (.inl rfl) (fun b q hb z => (hs.2 b hb).trans z) he new
theorem dk_new {P : Program} {w : World} {H' : Hp} {h' : Heap} {kvs : List (Key × V)} {vs : List (Key × Value)} (z : kvs.length ≤ sizeLine) (hd : (a == sysModules) = false) (rel : KV kvs vs) (dd : h'.DictOf (mixKind P w) a vs) :
    ObjOk P w H' h' a (.dK kvs) := ⟨z, hd, vs, rel, dd⟩
theorem d_setItem {H' : Hp} {Q : Unit → Shared → Prop} (hu : A.units + 1 < cLine) (I : Inv X pins σ H s) (g : DPut H a y v H') (ry : RelV y u) (rv : RelV v r) (h : ∀ s', Inv X pins σ H' s' → Q () s') :
    wpAny (model X.prog X.w) A (setItem (.ref a) u r) Q E s := by
  rcases g with ⟨kvs, k, e, ey, l, eH⟩ | ⟨kvs, k, b, e, ey, eb, l, eH⟩
  · subst ey eH
    obtain ⟨z, hd, vs, rel, dd⟩ := dk_of I.hok e
    have hz : vs.length ≤ sizeLine := by rw [← rel.length]; exact z
    have hl : (putK kvs k v).length ≤ sizeLine := by have := length_putK kvs k v; omega
    refine wpAny_setItem_pairs (hsz := hz) (kV_is ry) dd fun h' dd' hs => h _ ?_
    have he : ∃ q, h'.get? a = some q := let ⟨q, _, _, hq, _⟩ := dd'; ⟨q, hq⟩
    exact d_write I (by rw [e]; exact True.intro) hs he (dk_new hl hd (rel.put k rv) dd')
  · subst ey eH
    cases (show u = Value.ref b from ry)
    obtain ⟨z, hd, xs, rel, dd⟩ := dt_of I.hok e
    have hz : xs.length ≤ sizeLine := by rw [← Paired.length rel]; exact z
    have hl : (putK kvs k v).length ≤ sizeLine := by have := length_putK kvs k v; omega
    refine wpAny_setItem_heap (hsz := hz) (tupleKind_room_in1 hu) (key_of I.hok eb) dd fun h' dd' hs => h _ ?_
    obtain ⟨q, es, ep, hq, h2, h3, h4, _, h5⟩ := dd'
    refine d_write I (by rw [e]; exact True.intro) hs ⟨q, hq⟩ ⟨hl, hd, _, (rel.put k eb rv).keeps fun c ys ec => ?_, q, es, ep, hq, h2, h3, h4, h5⟩
    rw [upd_ne (ne_of ec e (fun z => nomatch z))]
    exact ec
end
section
variable {X : Cx} {pins : List (Addr × Obj)} {σ : St} {H : Hp} {s : Shared} {a : Addr} {kvs : List (Key × V)} {k : Key} {u : Value} {A : Around} {E : Value → Shared → Prop}
theorem d_pop {v : V} {more : List Value} {Q : Value → Shared → Prop} (I : Inv X pins σ H s) (e : H a = some (.dK kvs)) (ry : RelV (kV k) u) (l : valV kvs k = some v) (hm : more = [] ∨ ∃ x, more = [x])
    (h : ∀ w' s', Inv X pins σ (upd H a (.dK (dropK kvs k))) s' → RelV v w' → Q w' s') : wpAny (model X.prog X.w) A (call (.builtin "dict.pop") (.ref a :: u :: more)) Q E s := by
  obtain ⟨z, hd, vs, rel, dd⟩ := dk_of I.hok e
  obtain ⟨w', hw, rw'⟩ := RelO.some_of (v := v) (o := valueAt vs k) (by rw [← l]; exact rel.val k)
  have hp : (keyPart u).isSome = true := by
    cases k with
    | inl i => obtain ⟨t, q⟩ := (show ∃ t, u = Value.int i t from ry); subst q; rfl
    | inr x => obtain ⟨t, q⟩ := (show ∃ t, u = Value.str x t from ry); subst q; rfl
  have ha : argsOk "dict.pop" ⟨.ref a :: u :: more, []⟩ := by
    rcases hm with q | ⟨x, q⟩
    · subst q; exact PySem.F.args_dict_pop_2 _ _
    · subst q; exact PySem.F.args_dict_pop_3 _ _ _
  refine call_meetsIn PySem.F.slot_dict_pop dd.typeIs PySem.F.entry_dict_pop ha (meets_dict_pop_there (mixKind X.prog X.w) a (kV_is ry) more hm hp)
    ⟨vs, w', dd, by rw [← rel.length]; exact z, hw, fun h' dd' hs => h w' _ ?_ rw'⟩
  have he : ∃ q, h'.get? a = some q := let ⟨q, _, _, hq, _⟩ := dd'; ⟨q, hq⟩
  exact d_write I (by rw [e]; exact True.intro) hs he (dk_new (Nat.le_trans (dropK_le kvs k) z) hd (rel.drop k) dd')
end
def NoSl (i : Expr) : Prop := ∀ ov iv, subscripted i false ov iv = operate [ov, iv] (getItem ov iv)
theorem subD_of {prog : Program} {w : World} {A : Around} {E : Value → Shared → Prop} {s : Shared} {env : Env} {value slice : Expr} {pos : Pos} {T id : String} {Q : Value → Shared → Prop}
    (hl : typeLookup (.type T) "__getitem__" = pure (some (.builtin id))) (hs : NoSl slice)
    (h : wpAny (model prog w) A (eval value env) (fun o s₁ => wpAny (model prog w) A (eval slice env) (fun i s₂ => s₂.TypeIs o T ∧ wpAny (model prog w) A (getItem o i) Q E s₂) E s₁) E s) :
    wpAny (model prog w) A (eval (.Subscript value slice pos) env) Q E s := by
  refine Subscript_ (wpAny_mono h (fun o s₁ h₁ => wpAny_mono h₁ (fun i s₂ h₂ => ?_) fun _ _ x => x) fun _ _ x => x)
  obtain ⟨hT, h₂⟩ := h₂
  unfold subscriptTail
  refine wpAny_bind ?_
  rw [getitemInPython_of_ne hT.not_modules]
  refine wpAny_bind (wpAny_specialOf hT hl ?_)
  have fin : wpAny (model prog w) A (subscripted slice false o i) (fun r s₃ => wpAny (model prog w) A (letTemporaryGo value o r >>= fun _ => pure r) Q E s₃) E s₂ := by
    rw [hs o i]
    exact wpAny_operating (wpAny_mono h₂ (fun r s₃ h₃ => wpAny_bind (wpAny_letTemporaryGo (wpAny_pure h₃))) fun _ _ x => x)
  first
    | exact wpAny_pure (wpAny_bind fin)
    | exact wpAny_bind (wpAny_pure (wpAny_bind fin))
    | exact wpAny_bind fin
theorem dict_typeIs {X : Cx} {pins : List (Addr × Obj)} {σ : St} {H : Hp} {s : Shared} {a : Addr} {y : V} {o : Option V} (I : Inv X pins σ H s) (g : DGet H a y o) : s.TypeIs (.ref a) "dict" := by
  rcases g with ⟨kvs, k, e, _, _⟩ | ⟨kvs, k, b, e, _, _, _⟩
  · obtain ⟨_, _, vs, _, dd⟩ := dk_rd I.hok e
    exact dd.typeIs
  · obtain ⟨_, _, xs, _, dd⟩ := dt_rd I.hok e
    exact dd.typeIs
def tDGet (td ty : TE) : TE := fun σ H Q => td σ H fun x H1 => ty σ H1 fun y H2 => ∃ a v, x = .ref a ∧ DGet H2 a y (some v) ∧ Q v H2
def tDIn (ty td : TE) : TE := fun σ H Q => ty σ H fun y H1 => td σ H1 fun x H2 => ∃ a o, x = .ref a ∧ DGet H2 a y o ∧ Q (.bl o.isSome) H2
def tDNotIn (ty td : TE) : TE := fun σ H Q => ty σ H fun y H1 => td σ H1 fun x H2 => ∃ a o, x = .ref a ∧ DGet H2 a y o ∧ Q (.bl (!o.isSome)) H2
def sDPut (td ty tv : TE) : TS := fun D σ H => tv σ H fun v H1 => td σ H1 fun x H2 => ty σ H2 fun y H3 => ∃ a H4, x = .ref a ∧ DPut H3 a y v H4 ∧ D.nx σ H4
section
variable {X : Cx} {o i e value : Expr} {pos pos' tpos : Pos} {td ty tv : TE}
theorem pe_dget (hu : X.A.units + 1 < cLine) (ho : PE X o td) (hi : PE X i ty) (hs : NoSl i) : PE X (.Subscript o i pos) (tDGet td ty) := by
  intro pins s σ H Q I h
  refine subD_of PySem.F.slot_dict_getitem.lookup hs (thn (ho pins s σ H _ I h) fun u s1 ⟨x, H1, I1, rx, q1⟩ => thn (hi pins s1 σ H1 _ I1 q1) fun iv s2 ⟨y, H2, I2, ry, a, v, ex, g, q2⟩ => ?_)
  subst ex
  obtain rfl : u = Value.ref a := rx
  exact ⟨dict_typeIs I2 g, d_getItem hu I2 g ry fun w' s3 I3 rw' => ⟨v, H2, I3, rw', q2⟩⟩
theorem je_dget (hu : X.A.units + 1 < cLine) (ho : JE X o td) (hi : JE X i ty) (hs : NoSl i) : JE X (.Subscript o i pos) (tDGet td ty) := .of (pe_dget hu ho.to hi.to hs)
theorem pc_din (hu : X.A.units + 1 < cLine) (hi : PE X i ty) (ho : PE X o td) : PC X .In i o (tDIn ty td) := by
  intro pins s σ H Q I h
  refine thn (hi pins s σ H _ I h) fun iv s1 ⟨y, H1, I1, ry, q1⟩ => thn (ho pins s1 σ H1 _ I1 q1) fun u s2 ⟨x, H2, I2, rx, a, ov, ex, g, q2⟩ => ?_
  subst ex
  obtain rfl : u = Value.ref a := rx
  exact d_in hu I2 g ry fun s3 I3 => ⟨.bl ov.isSome, H2, I3, rfl, q2⟩
theorem jc_din (hu : X.A.units + 1 < cLine) (hi : JE X i ty) (ho : JE X o td) : JC X .In i o (tDIn ty td) := .of (pc_din hu hi.to ho.to)
theorem pc_dnotin (hu : X.A.units + 1 < cLine) (hi : PE X i ty) (ho : PE X o td) : PC X .NotIn i o (tDNotIn ty td) := by
  intro pins s σ H Q I h
  refine thn (hi pins s σ H _ I h) fun iv s1 ⟨y, H1, I1, ry, q1⟩ => thn (ho pins s1 σ H1 _ I1 q1) fun u s2 ⟨x, H2, I2, rx, a, ov, ex, g, q2⟩ => ?_
  subst ex
  obtain rfl : u = Value.ref a := rx
  exact d_notIn hu I2 g ry fun s3 I3 => ⟨.bl (!ov.isSome), H2, I3, rfl, q2⟩
theorem jc_dnotin (hu : X.A.units + 1 < cLine) (hi : JE X i ty) (ho : JE X o td) : JC X .NotIn i o (tDNotIn ty td) := .of (pc_dnotin hu hi.to ho.to)
theorem ps_dput (hu : X.A.units + 1 < cLine) (ho : PE X o td) (hi : PE X i ty) (hv : PE X value tv) (hs : swapsWith value (some (.Subscript o i pos')) pos.line X.env = pure false) :
    PS X (.Assign [.Subscript o i pos'] value pos) (sDPut td ty tv) := by
  intro pins s σ H D I h
  refine wpAny_Assign_Subscript (thn (hv pins s σ H _ I h) fun r s1 ⟨v, H1, I1, rv, q1⟩ => thn (ho pins s1 σ H1 _ I1 q1) fun u s2 ⟨x, H2, I2, rx, q2⟩ => thn (hi pins s2 σ H2 _ I2 q2) fun iv s3 ⟨y, H3, I3, ry, a, H4, ex, g, q3⟩ => ?_) hs
  subst ex
  obtain rfl : u = Value.ref a := rx
  exact d_setItem hu I3 g ry rv fun s4 I4 => ⟨σ, H4, I4, q3⟩
theorem js_dput (hu : X.A.units + 1 < cLine) (ho : JE X o td) (hi : JE X i ty) (hv : JE X value tv) (hs : swapsWith value (some (.Subscript o i pos')) pos.line X.env = pure false) : JS X (.Assign [.Subscript o i pos'] value pos) (sDPut td ty tv) := .of (ps_dput hu ho.to hi.to hv.to hs)
end
theorem dk_empty {P : Program} {w : World} {H : Hp} (h : Heap) (hb : sysModules < h.objs.size) : ObjOk P w H (h.push { cls := .type "dict", data := .dict #[] }) h.objs.size (.dK []) :=
  ⟨Nat.zero_le _, beq_eq_false_iff_ne.mpr (Ne.symm (Nat.ne_of_lt hb)), [], .nil, Heap.DictOf.new h⟩
theorem dt_empty {P : Program} {w : World} {H : Hp} (h : Heap) (hb : sysModules < h.objs.size) : ObjOk P w H (h.push { cls := .type "dict", data := .dict #[] }) h.objs.size (.dT []) :=
  ⟨Nat.zero_le _, beq_eq_false_iff_ne.mpr (Ne.symm (Nat.ne_of_lt hb)), [], .nil, _, #[], 0, Heap.get?_push_size _ rfl, ⟨rfl, rfl, rfl⟩, rfl, rfl, List.nodup_nil⟩
def tDNewK : TE := fun _ H Q => ∀ p, H p = none → Q (.ref p) (upd H p (.dK []))
def tDNewT : TE := fun _ H Q => ∀ p, H p = none → Q (.ref p) (upd H p (.dT []))
section
variable {X : Cx} {pos : Pos}
theorem pe_dnewK : PE X (.Dict [] [] pos) tDNewK := fun pins s σ H Q I h =>
  wpAny_Dict_empty ⟨.ref s.heap.objs.size, _, I.laid (a := s.heap.objs.size) (o := .dK []) (t' := s.toks) (fun _ _ q => Heap.get?_push_of_some _ q) (Nat.le_refl _) (dk_empty s.heap I.big), rfl, h _ (I.hok.fresh (Nat.le_refl _))⟩
theorem je_dnewK  : JE X (.Dict [] [] pos) tDNewK := .of (pe_dnewK )
theorem pe_dnewT : PE X (.Dict [] [] pos) tDNewT := fun pins s σ H Q I h =>
  wpAny_Dict_empty ⟨.ref s.heap.objs.size, _, I.laid (a := s.heap.objs.size) (o := .dT []) (t' := s.toks) (fun _ _ q => Heap.get?_push_of_some _ q) (Nat.le_refl _) (dt_empty s.heap I.big), rfl, h _ (I.hok.fresh (Nat.le_refl _))⟩
theorem je_dnewT  : JE X (.Dict [] [] pos) tDNewT := .of (pe_dnewT )
end
def tPairs : List (TE × TE) → St → Hp → (List (V × V) → Hp → Prop) → Prop
  | [], _, H, Q => Q [] H
  | (tk, tv) :: r, σ, H, Q => tk σ H fun x H1 => tv σ H1 fun y H2 => tPairs r σ H2 fun ps H3 => Q ((x, y) :: ps) H3
abbrev VV : List (V × V) → List (Value × Value) → Prop := Paired fun p q => RelV p.1 q.1 ∧ RelV p.2 q.2
def PPs (X : Cx) (pos : Pos) (keys : List (Option Expr)) (values : List Expr) (trs : List (TE × TE)) : Prop :=
  ∀ (pins : List (Addr × Obj)) (s : Shared) (σ : St) (H : Hp) (Q : List (V × V) → Hp → Prop), Inv X pins σ H s → tPairs trs σ H Q →
    wpAny (model X.prog X.w) X.A (evalPairs (pairTrees keys values X.env pos)) (fun vs s' => ∃ ps H', Inv X pins σ H' s' ∧ VV ps vs ∧ Q ps H') X.xe s
@[irreducible] def JPs (X : Cx) (pos : Pos) (keys : List (Option Expr)) (values : List Expr) (trs : List (TE × TE)) : Prop := PPs X pos keys values trs
theorem JPs.of {X : Cx} {pos : Pos} {keys : List (Option Expr)} {values : List Expr} {trs : List (TE × TE)} (h : PPs X pos keys values trs) : JPs X pos keys values trs := by unfold JPs; exact h
theorem JPs.to {X : Cx} {pos : Pos} {keys : List (Option Expr)} {values : List Expr} {trs : List (TE × TE)} (h : JPs X pos keys values trs) : PPs X pos keys values trs := by unfold JPs at h; exact h
theorem pps_nil {X : Cx} {pos : Pos} : PPs X pos [] [] [] := fun pins s σ H Q I h => pairTrees_nil_walk ⟨[], H, I, .nil, h⟩
theorem jps_nil {X : Cx} {pos : Pos} : JPs X pos [] [] [] := .of (pps_nil )
theorem pps_cons {X : Cx} {pos : Pos} {k v : Expr} {ks : List (Option Expr)} {vs : List Expr} {tk tv : TE} {trs : List (TE × TE)} (hk : PE X k tk) (hv : PE X v tv) (hr : PPs X pos ks vs trs) :
    PPs X pos (some k :: ks) (v :: vs) ((tk, tv) :: trs) := fun pins s σ H Q I h =>
  pairTrees_cons_walk (thn (hk pins s σ H _ I h) fun u s1 ⟨x, H1, I1, rx, q1⟩ => thn (hv pins s1 σ H1 _ I1 q1) fun w2 s2 ⟨y, H2, I2, ry, q2⟩ =>
    thn (hr pins s2 σ H2 _ I2 q2) fun ws s3 ⟨ps, H3, I3, rel, q3⟩ => ⟨(x, y) :: ps, H3, I3, .cons ⟨rx, ry⟩ rel, q3⟩)
theorem jps_cons {X : Cx} {pos : Pos} {k v : Expr} {ks : List (Option Expr)} {vs : List Expr} {tk tv : TE} {trs : List (TE × TE)} (hk : JE X k tk) (hv : JE X v tv) (hr : JPs X pos ks vs trs) : JPs X pos (some k :: ks) (v :: vs) ((tk, tv) :: trs) := .of (pps_cons hk.to hv.to hr.to)
def mergeK (kvs more : List (Key × V)) : List (Key × V) := more.foldl (fun acc kv => putK acc kv.1 kv.2) kvs
theorem KV.merge : ∀ {more : List (Key × V)} {rs : List (Key × Value)} {kvs : List (Key × V)} {vs : List (Key × Value)}, KV more rs → KV kvs vs → KV (mergeK kvs more) (merged vs rs) := by
  intro more rs kvs vs r
  unfold KV at r
  induction r generalizing kvs vs with
  | nil => intro q; exact q
  | @cons p q ps qs h t ih =>
    intro r0
    have e : KV (putK kvs p.1 p.2) (stored vs q.1 q.2) := by
      have := r0.put p.1 h.2
      rw [← h.1]; exact this
    exact ih e
theorem length_mergeK : ∀ (more kvs : List (Key × V)), (mergeK kvs more).length ≤ kvs.length + more.length
  | [], kvs => by show kvs.length ≤ kvs.length + 0; omega
  | p :: r, kvs => by
    have h1 := length_mergeK r (putK kvs p.1 p.2)
    have h2 := length_putK kvs p.1 p.2
    show (mergeK (putK kvs p.1 p.2) r).length ≤ _
    rw [List.length_cons]; omega
theorem carries_of {P : Program} {w : World} : ∀ {kvs : List (Key × V)} {ws : List (Value × Value)}, VV (kvs.map fun kv => (kV kv.1, kv.2)) ws → ∃ rs, Carries (mixKind P w) ws rs ∧ KV kvs rs
  | [], _, r => by rw [List.map_nil] at r; cases r; exact ⟨[], True.intro, .nil⟩
  | p :: kvs, _, r => by
    rw [List.map_cons] at r
    cases r with
    | @cons a b as bs h t =>
      obtain ⟨rs, c, q⟩ := carries_of (P := P) (w := w) t
      obtain ⟨b1, b2⟩ := b
      exact ⟨(p.1, b2) :: rs, ⟨kV_is h.1, rfl, c⟩, .cons ⟨rfl, h.2⟩ q⟩
def tDisp (trs : List (TE × TE)) : TE := fun σ H Q => ∀ p, H p = none → tPairs trs σ (upd H p (.dK [])) fun ps H2 => H2 p = some (.dK []) ∧ ∃ kvs : List (Key × V), ps = kvs.map (fun kv => (kV kv.1, kv.2)) ∧ kvs.length ≤ 15 ∧ Q (.ref p) (upd H2 p (.dK (mergeK [] kvs)))
theorem pe_disp {X : Cx} {pos : Pos} {keys : List (Option Expr)} {values : List Expr} {trs : List (TE × TE)} (h : PPs X pos keys values trs) (hall : keys.all (·.isSome) = true) (hl : keys.length = values.length) (h0 : keys ≠ [])
    (h15 : keys.length ≤ 15) : PE X (.Dict keys values pos) (tDisp trs) := by
  intro pins s σ H Q I q
  have hn := I.hok.fresh (Nat.le_refl s.heap.objs.size)
  have I1 := I.laid (a := s.heap.objs.size) (o := .dK []) (h' := s.heap.push { cls := .type "dict", data := .dict #[] }) (t' := s.toks) (fun _ _ q => Heap.get?_push_of_some _ q) (Nat.le_refl _) (dk_empty s.heap I.big)
  refine wpAny_Dict_walk (knd := mixKind X.prog X.w) hall hl h0 h15 (thn (h pins _ σ _ _ I1 (q _ hn)) fun ws s2 ⟨ps, H2, I2, rel, e, kvs, ep, lk, q2⟩ => ?_)
  subst ep
  obtain ⟨rs, c, rk⟩ := carries_of (P := X.prog) (w := X.w) rel
  obtain ⟨z, hd, vs0, r0, dd⟩ := dk_of I2.hok e
  cases r0
  refine ⟨rs, c, dd, fun h' dd' hs => ⟨.ref s.heap.objs.size, _, ?_, rfl, q2⟩⟩
  have hz : (mergeK [] kvs).length ≤ sizeLine := by
    have h1 := length_mergeK kvs []
    rw [List.length_nil] at h1
    rw [sizeLine_eq]; omega
  have he : ∃ q, h'.get? s.heap.objs.size = some q := let ⟨q, _, _, hq, _⟩ := dd'; ⟨q, hq⟩
  exact d_write I2 (by rw [e]; exact True.intro) hs he (dk_new hz hd (rk.merge .nil) dd')
theorem je_disp {X : Cx} {pos : Pos} {keys : List (Option Expr)} {values : List Expr} {trs : List (TE × TE)} (h : JPs X pos keys values trs) (hall : keys.all (·.isSome) = true) (hl : keys.length = values.length) (h0 : keys ≠ []) (h15 : keys.length ≤ 15) : JE X (.Dict keys values pos) (tDisp trs) := .of (pe_disp h.to hall hl h0 h15)
structure M1 (X : Cx) (o : Expr) (m : Str) (apos : Pos) (e : Expr) (cpos : Pos) : Prop where
  base : attributeBase o m X.env (eval o X.env) = eval o X.env
  few : ((backTo cpos (starEach [e] X.env)).all (fun x => !x.1) && (backToKw cpos (keywordEach [] X.env)).all (fun x => x.1.isSome)
    && decide (([e] : List Expr).length + ([] : List Keyword).length + (if ([] : List Keyword).isEmpty then 0 else 1) < 30)) = true
  line : (apos.endLine == cpos.line) = true
  trees : backTo cpos (starEach [e] X.env) = [(false, eval e X.env)]
structure M2 (X : Cx) (o : Expr) (m : Str) (apos : Pos) (e f : Expr) (cpos : Pos) : Prop where
  base : attributeBase o m X.env (eval o X.env) = eval o X.env
  few : ((backTo cpos (starEach [e, f] X.env)).all (fun x => !x.1) && (backToKw cpos (keywordEach [] X.env)).all (fun x => x.1.isSome)
    && decide (([e, f] : List Expr).length + ([] : List Keyword).length + (if ([] : List Keyword).isEmpty then 0 else 1) < 30)) = true
  line : (apos.endLine == cpos.line) = true
  trees : backTo cpos (starEach [e, f] X.env) = [(false, eval e X.env), (false, eval f X.env)]
def IsD (H : Hp) (a : Addr) : Prop := (∃ kvs, Rd H a (.dK kvs)) ∨ ∃ kvs, Rd H a (.dT kvs)
theorem isD_at {X : Cx} {pins : List (Addr × Obj)} {σ : St} {H : Hp} {s : Shared} {a : Addr} (I : Inv X pins σ H s) (d : IsD H a) :
    s.TypeIs (.ref a) "dict" ∧ (∀ b, Value.ref a = .ref b → ∃ ob, s.heap.get? b = some ob ∧ ob.dict = none) ∧ (a == sysModules) = false := by
  rcases d with ⟨kvs, e⟩ | ⟨kvs, e⟩
  · obtain ⟨_, hd, vs, _, dd⟩ := dk_rd I.hok e
    refine ⟨dd.typeIs, fun b q => ?_, hd⟩
    cases q
    obtain ⟨ob, _, _, h1, h2, _⟩ := dd
    exact ⟨ob, h1, h2.2.1⟩
  · obtain ⟨_, hd, xs, _, dd⟩ := dt_rd I.hok e
    refine ⟨dd.typeIs, fun b q => ?_, hd⟩
    cases q
    obtain ⟨ob, _, _, h1, h2, _⟩ := dd
    exact ⟨ob, h1, h2.2.1⟩
section
variable {X : Cx} {pins : List (Addr × Obj)} {σ : St} {H : Hp} {s : Shared} {a : Addr} {y d : V} {u r : Value} {o : Option V} {A : Around} {E : Value → Shared → Prop}
end
def tDPop1 (td ty : TE) : TE := fun σ H Q => td σ H fun x H1 => ∃ a, x = .ref a ∧ IsD H1 a ∧ ty σ H1 fun y H2 => ∃ kvs k v, H2 a = some (.dK kvs) ∧ y = kV k ∧ valV kvs k = some v ∧ Q v (upd H2 a (.dK (dropK kvs k)))
section
variable {X : Cx} {o e f : Expr} {apos cpos : Pos} {td ty tx : TE}
theorem pe_dpop1 (ho : PE X o td) (he : PE X e ty) (m : M1 X o "pop" apos e cpos) : PE X (.Call (.Attribute o "pop" apos) [e] [] cpos) (tDPop1 td ty) := by
  intro pins s σ H Q I h
  refine wpAny_Call_method m.base m.few m.line PySem.F.plainAttrs_dict PySem.F.slot_dict_pop PySem.F.type_dict_pop (thn (ho pins s σ H _ I h) fun u s1 ⟨x, H1, I1, rx, a, ex, d, q1⟩ => ?_)
  subst ex
  obtain rfl : u = Value.ref a := rx
  obtain ⟨t1, t2, _⟩ := isD_at I1 d
  refine ⟨t1, t2, ?_⟩
  rw [m.trees]
  refine Calls.callWith_builtin rfl (Calls.evalArgs_plain (Calls.spliced_cons (thn (he pins s1 σ H1 _ I1 q1) fun iv s2 ⟨y, H2, I2, ry, kvs, k, v, ea, ey, l, q2⟩ => Calls.spliced_nil ?_)))
  subst ey
  exact d_pop I2 ea ry l (.inl rfl) fun w' s3 I3 rw' => ⟨v, _, I3, rw', q2⟩
theorem je_dpop1 (ho : JE X o td) (he : JE X e ty) (m : M1 X o "pop" apos e cpos) : JE X (.Call (.Attribute o "pop" apos) [e] [] cpos) (tDPop1 td ty) := .of (pe_dpop1 ho.to he.to m)
end
section
variable {X : Cx} {pins : List (Addr × Obj)} {σ : St} {H : Hp} {s : Shared} {a : Addr} {kvs : List (Key × V)} {A : Around} {E : Value → Shared → Prop}
end
section
variable {X : Cx} {pins : List (Addr × Obj)} {σ : St} {H : Hp} {s : Shared} {a : Addr} {y : V} {u : Value} {A : Around} {E : Value → Shared → Prop}
end
end L2
namespace Att
open PySem PySem.W PySem.Calls PyProof.Rows
theorem ints_of_wellAll {P : Params} {h : Heap} : ∀ (ns : List Int) (vs : List Value), WellAll P h vs (ns.map WData.int) → IntsAre vs ns := by
  intro ns
  induction ns with
  | nil =>
    intro vs w
    rw [List.map_nil] at w
    cases w
    exact .nil
  | cons n ns ih =>
    intro vs w
    rw [List.map_cons] at w
    cases w with
    | cons a b =>
      cases a
      exact .cons _ _ (ih _ b)
theorem script_of {l : OpenLaw} {n : Nat} (hn : l.most = some n) {P : Params} {h : Heap} {args : List WData} {vals : List Value}
    (hpre : l.row.toRowW.claim.pre args = true) (hwl : WellAll P h vals args) :
    ∃ a vs ns, vals = [Value.ref a] ∧ args = [WData.list (ns.map WData.int)] ∧ h.get? a = some { cls := .type "list", data := .seq vs.toArray } ∧ IntsAre vs ns ∧ ns.length ≤ n := by
  have hsh : WShape.hasAll [] args [.list .int] = true := (pre_splitW hpre).1
  have hc : l.pre.holds [] { args := args } = true := (pre_splitW hpre).2
  obtain ⟨d, r, rfl, h1, h2⟩ := hasAllW_cons hsh
  obtain rfl := hasAllW_nil h2
  obtain ⟨xs, rfl, h3⟩ := hasW_list h1
  obtain ⟨ns, rfl⟩ := items_int h3
  have hlen : ns.length ≤ n := by
    unfold OpenLaw.pre at hc
    have h4 : (WTm.not (.lt (.lit (.int (n : Int))) (.len (.arg 0)))).holds [] { args := [.list (ns.map .int)] } = true := by
      have h4 := (holds_andW hc).1
      rw [hn] at h4
      exact h4
    have h5 := condW_of h4 (w_not (w_lt w_lit (w_len_list (w_arg rfl))))
    rw [List.length_map] at h5
    refine Nat.le_of_not_lt fun q => ?_
    have q' : (n : Int) < ((ns.length : Nat) : Int) := by omega
    first
      | (rw [decide_eq_true q'] at h5; exact absurd h5 (by decide))
      | (simp at h5; omega)
  cases hwl with
  | cons w1 w2 =>
    cases w2
    cases w1 with
    | list ho hall => exact ⟨_, _, ns, rfl, rfl, ho, ints_of_wellAll ns _ hall, hlen⟩
theorem post_true (l : OpenLaw) (args : List WData) : l.row.toRowW.claim.post args (.bool true) args = true :=
  postW_of (r := l.row.toRowW) (X := (true == true))
    (show WShape.has [] (.bool true) .bool = true by first | rfl | decide | simp [WShape.has, WShape.arms, WShape.armsAll])
    (show (WTm.eq .res (.lit (.bool true))).value [] { args := args, res := some (.bool true), after := args } = some (.bool (true == true)) from w_eq_bool (w_res rfl) w_lit) rfl
theorem attach_call {l : OpenLaw} {n : Nat} {q : Program} {loose : List Str} {XP : (Str → Option Value) → Heap → Prop} {YP : World → Heap → Prop} {d : DefRec}
    (hn : l.most = some n) (hdf : d.params.defaults = [])
    (call : ∀ (w : World) (s₀ s₁ : Shared) (mg mb : Str → Option Value) (fa : Addr) (o : Obj) (pm cd doc : Value) (a : Addr) (vs : List Value) (ns : List Int),
      Ground q loose [] XP w s₀ mg mb s₁.heap → YP w s₁.heap →
      s₁.heap.get? fa = some o → o.data = .func (docDef d.name d.params d.body d.scope pm cd doc) → s₁.heap.CodeRec cd d.name → mg d.name = some (.ref fa) →
      s₁.heap.get? a = some { cls := .type "list", data := .seq vs.toArray } → IntsAre vs ns → ns.length ≤ n → s₁.gens = #[] →
      codeAny (model l.prog w) callerA (.call (.ref fa) ⟨[.ref a], []⟩) (fun r s' => r = .ok (.ret (.bool true)) ∧ OldK s₁.heap s'.heap ∧ s'.os = s₁.os ∧ AllBare s'.gens) s₁) :
    WalkO q loose XP YP l.row.toRowW d [] (fun f vs => PySem.call f vs) := by
  intro w s₀ s₁ mg mb G Y fa o pm cd doc dV kV ho hd hcd hD hmg hg args vals as hpre hlay hrd hwl hlo
  obtain rfl : dV = .none := Dflts.none hD hdf
  obtain rfl : kV = .none := Dflts.noKw hD
  obtain ⟨a, vs, ns, rfl, rfl, hobj, hints, hlen⟩ := script_of hn hpre hwl
  refine enter_call (codeAny_mono (call w s₀ s₁ mg mb fa o pm cd doc a vs ns G Y ho (fd_plain hd) hcd hmg hobj hints hlen hg) fun r s' hq => ?_)
  obtain ⟨rfl, h2, h3, h4⟩ := hq
  exact ⟨.inl ⟨.bool true, .bool true, [], rfl, fun _ => rfl, .bool true, post_true l _, fun _ => ⟨List.Pairwise.nil, fun _ hm => (nomatch hm)⟩⟩, h2, h3, h4⟩
section
variable {prog : Program} {w : World} {A : Around} {E : Value → Shared → Prop} {s : Shared} {K : Frag}
end
end Att
namespace L2
open PySem PySem.Spec PyProof.Rows
theorem vals_ints : ∀ {vs : List Value} {ns : List Int}, IntsAre vs ns → Vals (ns.map V.int) vs
  | _, _, .nil => .nil
  | _, _, .cons n t h => .cons ⟨t, rfl⟩ (vals_ints h)
def Only (H : Hp) : Prop := ∀ b, H b = none ∨ ∃ o xs, H b = some (.frz o (.lst xs))
theorem law_call {P : Program} {w : World} {K : PySem.W.Frag} {mg mb : Str → Option Value} {CX : CXT} {k : Nat} {fa a : Addr} {fd : FuncData} {x : Str} {sp : Sp} {s₁ : Shared} {vs : List Value} {ns : List Int}
    (KX : K.In s₁.heap) (hns : s₁.heap.Ns mainGlobals mg) (hb : s₁.heap.Ns builtinsNs mb) (hbb : ∀ x : Str, x ≠ "__name__" → mb x = bootBuiltins x) (hlim : s₁.heap.NoLimit) (hg : s₁.gens = #[])
    (ha : s₁.heap.get? a = some { cls := .type "list", data := .seq vs.toArray }) (hi : IntsAre vs ns) (hl : ns.length ≤ sizeLine) (hr : Room k callerA)
    (F : ∀ base : Heap, K.In base → base.Ns mainGlobals mg → FnOk P w K mg base CX k fa fd [x] sp) (hbind : ∀ (s : Shared) (u : Value), BindsTo s fd ⟨[u], []⟩ [(x, u)])
    (hsp : ∀ H : Hp, Only H → SqL K H a (ns.map V.int) → sp [.ref a] H (fun v _ => v = .bl true) fun _ _ _ => False)
    (hCX : ∀ H e s', CX [] H s₁ (fun _ _ _ => False) e s' → False) :
    codeAny (model P w) callerA (.call (.ref fa) ⟨[.ref a], []⟩) (fun r s' => r = .ok (.ret (.bool true)) ∧ OldK s₁.heap s'.heap ∧ s'.os = s₁.os ∧ AllBare s'.gens) s₁ := by
  have rv := vals_ints hi
  have lenV := hi.length
  have core : ∀ H : Hp, Only H → SqL K H a (ns.map V.int) → HOk P w H s₁.heap → (∀ b, H b ≠ none → b = a) → (H a ≠ none → K.lookup a = none) →
      codeAny (model P w) callerA (.call (.ref fa) ⟨[.ref a], []⟩) (fun r s' => r = .ok (.ret (.bool true)) ∧ OldK s₁.heap s'.heap ∧ s'.os = s₁.os ∧ AllBare s'.gens) s₁ := by
    intro H hO hS hok hA hK
    have base_of : ∀ {b : Addr} {o : Obj}, s₁.heap.get? b = some o → H b = none → (hidT s₁.heap H).get? b = some o := fun e n => hidT_get e n
    have noA : ∀ {b : Addr} {o : Obj} {es : Array DictEntry} {ep : Nat}, s₁.heap.get? b = some o → o.data = .dict es ep → H b = none := fun {b o es ep} e d => by
      cases q : H b with
      | none => rfl
      | some u =>
        have e' : b = a := hA b (by rw [q]; simp)
        subst e'
        rw [ha] at e; cases e
        have d' : Data.seq vs.toArray _ = Data.dict es ep := d
        cases d'
    have nsK : ∀ {b : Addr} {m : Str → Option Value}, s₁.heap.Ns b m → (hidT s₁.heap H).Ns b m := fun {b m} ⟨o, es, ep, e, d, r⟩ => ⟨o, es, ep, base_of e (noA e d), d, r⟩
    have hKb : K.In (hidT s₁.heap H) := fun b o e => base_of (KX b o e) (by
      cases q : H b with
      | none => rfl
      | some u =>
        have e' : b = a := hA b (by rw [q]; simp)
        subst e'
        rw [hK (by rw [q]; simp)] at e; cases e)
    have hM : Mod K mg (hidT s₁.heap H) := ⟨hKb, nsK hns, ⟨mb, nsK hb, hbb⟩, let ⟨mc, h1, h2⟩ := hlim; ⟨mc, nsK h1, h2⟩⟩
    have e0 : Env0 P w K mg (hidT s₁.heap H) callerA [] s₁ H := ⟨rfl, hM, fun b o e => of_hidT e, Nat.le_of_eq (hidT_size _ _), trivial, fun b hb => absurd (show b ∈ ([] : List Addr) from hb) (by simp), hok, .of_eq hg⟩
    refine codeAny_mono ((F _ hKb (nsK hns)).run callerA [] s₁ H ⟨[.ref a], []⟩ [.ref a] [.ref a] _ _ hr e0 (hbind s₁ (.ref a)) (.cons rfl .nil) (hsp H hO hS)) fun r s' h => ?_
    cases r with
    | error e => exact (hCX H e s' h).elim
    | ok fl =>
      cases fl with
      | next => exact False.elim h
      | brk => exact False.elim h
      | cont => exact False.elim h
      | ret u =>
        obtain ⟨v, H', os, bare, un, hok', r', q⟩ := h
        have q' : v = .bl true := q
        subst q'
        obtain rfl : u = Value.bool true := r'
        refine ⟨rfl, OldK.of_keep fun b o e => ?_, os, bare⟩
        cases q : H b with
        | none => exact un.keep b o e q (by intro z; exact absurd (show b ∈ ([] : List Addr) from z) (by simp)) (by simp)
        | some u =>
          rcases hO b with z | ⟨ob, xs, z⟩
          · rw [q] at z; cases z
          · have z2 := un.frzs b ob _ z
            obtain ⟨e1, _⟩ := hok b _ z
            obtain ⟨e2, _⟩ := hok' b _ z2
            rw [e] at e1; cases e1
            exact e2
  cases hk : K.lookup a with
  | some o =>
    have e := KX a o hk
    rw [ha] at e
    cases e
    refine core (fun _ => none) (fun _ => .inl rfl) (.inr ⟨_, vs.toArray, _, hk, rfl, rfl, rfl, by rw [List.size_toArray, lenV]; exact hl, by simpa using rv⟩) (fun b u z => by have z' : (none : Option HO) = some u := z; cases z') (fun b z => absurd rfl z) fun z => absurd rfl z
  | none =>
    refine core (fun b => if b = a then some (.frz { cls := .type "list", data := .seq vs.toArray } (.lst (ns.map V.int))) else none) (fun b => ?_) (.inl (.inr ⟨{ cls := .type "list", data := .seq vs.toArray }, if_pos rfl⟩)) (fun b u z => ?_) (fun b z => ?_) fun _ => hk
    · by_cases hb : b = a
      · exact .inr ⟨_, _, if_pos hb⟩
      · exact .inl (if_neg hb)
    · by_cases hb : b = a
      · have z' := (if_pos hb).symm.trans z
        cases z'
        subst hb
        exact ⟨ha, by rw [List.length_map]; exact hl, vs, _, rv, ha⟩
      · have z' := (if_neg hb).symm.trans z
        cases z'
    · by_cases hb : b = a
      · exact hb
      · exact absurd (if_neg hb) z
end L2
namespace L2
open PySem PySem.Spec PyProof.Rows
theorem walk_of {l : PySem.W.OpenLaw} {n k : Nat} {q : Program} {loose : List Str} {XP : (Str → Option Value) → Heap → Prop} {YP : World → Heap → Prop} {d : DefRec} {K : Params → PySem.W.Frag} {CX : World → CXT} {sp : World → Sp} {x : Str}
    (hn : l.most = some n) (hn2 : n ≤ sizeLine) (hdf : d.params.defaults = []) (hr : Room k callerA)
    (hY : ∀ (w : World) (h : Heap), YP w h → (K w.params).In h)
    (F : ∀ (w : World) (mg : Str → Option Value) (fa : Addr) (h : Heap), (K w.params).In h → h.Ns mainGlobals mg → mg d.name = some (.ref fa) →
      ∃ fd : FuncData, (∀ (s : Shared) (u : Value), BindsTo s fd ⟨[u], []⟩ [(x, u)]) ∧
        ∀ base : Heap, (K w.params).In base → base.Ns mainGlobals mg → FnOk l.prog w (K w.params) mg base (CX w) k fa fd [x] (sp w))
    (hsp : ∀ (w : World) (H : Hp) (a : Addr) (ns : List Int), ns.length ≤ n → Only H → SqL (K w.params) H a (ns.map V.int) → sp w [.ref a] H (fun v _ => v = .bl true) fun _ _ _ => False)
    (hCX : ∀ (w : World) (H : Hp) (s : Shared) (e : Value) (s' : Shared), CX w [] H s (fun _ _ _ => False) e s' → False) :
    PySem.W.WalkO q loose XP YP l.row.toRowW d [] (fun f vs => PySem.call f vs) := by
  refine Att.attach_call hn hdf fun w s₀ s₁ mg mb fa o pm cd doc a vs ns G Y ho hd hcd hmg hobj hints hlen hg => ?_
  have KX := hY w _ Y
  obtain ⟨fd, hb, hF⟩ := F w mg fa _ KX G.T.g hmg
  exact law_call KX G.T.g G.T.b G.T.builtins G.T.nolimit hg hobj hints (Nat.le_trans hlen hn2) hr hF hb (fun H hO hS => hsp w H a ns hlen hO hS) fun H e s' => hCX w H s₁ e s'
end L2
namespace L2
open PySem PySem.Spec PyProof.Rows
def inClass (s : Stmt) (j : Nat) : Stmt := match s with
  | .ClassDef _ _ _ body _ _ _ _ _ _ _ => body.getD j (.Pass ⟨0, 0, 0, 0⟩)
  | _ => .Pass ⟨0, 0, 0, 0⟩
def defArgs (s : Stmt) : Arguments := match s with
  | .FunctionDef _ a _ _ _ _ _ _ _ _ => a
  | _ => { posonlyargs := [], args := [], vararg := none, kwonlyargs := [], kw_defaults := [], kwarg := none, defaults := [] }
def defBody (s : Stmt) : List Stmt := match s with
  | .FunctionDef _ _ b _ _ _ _ _ _ _ => b
  | _ => []
def defScope (s : Stmt) : Scope := match s with
  | .FunctionDef _ _ _ _ _ _ sc _ _ _ => sc
  | _ => { kind := .function, names := [], isGenerator := false, isCoroutine := false }
abbrev CX0 : CXT := fun _ _ _ _ _ _ => False
abbrev E0 : XK := fun _ _ _ => False
theorem pass0 {X : Cx} : Passes CX0 X E0 := fun _ _ _ _ _ _ _ h => h.elim
structure Fun (K : PySem.W.Frag) (x qual : Str) (st : Stmt) (f : Addr) (fd : FuncData) : Prop where
  ex : ∃ (oc : Value) (od : Option Addr) (kV doc pm : Value) (an : Option Addr) (cdv ct : Value) (osl : Array (Option Value)),
    fd = PySem.W.fnOf x qual (defArgs st) (defBody st) (defScope st) .none kV doc pm an cdv ct ∧ K.lookup f = some ⟨oc, od, .func fd, osl⟩ ∧ PySem.W.codeIn K cdv qual = true
  kp : PySem.W.keepIn K (.ref f) = true
section
variable {P : Program} {w : World} {K : PySem.W.Frag} {mg : Str → Option Value} {base : Heap}
theorem Fun.ok {x qual : Str} {st : Stmt} {f : Addr} {fd : FuncData} {N ps : List Str} {k : Nat} {sp : Sp} (F : Fun K x qual st f fd) (S : FnScope N ps (defScope st)) (len : ∀ vs H Q E, sp vs H Q E → vs.length = ps.length)
    (hbody : ∀ (cdv : Value) (A : Around) (outer : List Env) (s : Shared) (H : Hp) (vs : List V) (Q : VK) (E : XK), Room k (A.deeper (envOfC qual (defScope st) s.heap.objs.size f cdv)) → sp vs H Q E →
      ∃ t, PSs (cxOf CX0 P w K mg base N qual (defScope st) f cdv A outer s H E).nox (defBody st) t ∧ t { nx := fun _ H' => Q .non H', rt := Q } (start N vs) H) : FnOk P w K mg base CX0 (k + 1) f fd ps sp := by
  obtain ⟨oc, od, kV, doc, pm, an, cdv, ct, osl, rfl, lk, hcd⟩ := F.ex
  refine fn_of lk hcd S len fun A outer s H vs Q E hr hsp => ?_
  obtain ⟨t, h, q⟩ := hbody cdv A outer s H vs Q E hr hsp
  exact ⟨t, h.nox, q⟩
theorem Fun.okJ {x qual : Str} {st : Stmt} {f : Addr} {fd : FuncData} {N ps : List Str} {k : Nat} {sp : Sp} (F : Fun K x qual st f fd) (S : FnScope N ps (defScope st)) (len : ∀ vs H Q E, sp vs H Q E → vs.length = ps.length)
    (hbody : ∀ (cdv : Value) (A : Around) (outer : List Env) (s : Shared) (H : Hp) (vs : List V) (Q : VK) (E : XK), Room k (A.deeper (envOfC qual (defScope st) s.heap.objs.size f cdv)) → sp vs H Q E →
      ∃ t, JSs (cxOf CX0 P w K mg base N qual (defScope st) f cdv A outer s H E).nox (defBody st) t ∧ t { nx := fun _ H' => Q .non H', rt := Q } (start N vs) H) : FnOk P w K mg base CX0 (k + 1) f fd ps sp :=
  F.ok S len fun cdv A outer s H vs Q E hr h => let ⟨t, a, b⟩ := hbody cdv A outer s H vs Q E hr h; ⟨t, a.to, b⟩
theorem Fun.binds {x qual : Str} {st : Stmt} {f : Addr} {fd : FuncData} {ps : List Str} (F : Fun K x qual st f fd)
    (h : ∀ (kV doc pm : Value) (an : Option Addr) (cdv ct : Value) (us : List Value), us.length = ps.length → bindArgs (PySem.W.fnOf x qual (defArgs st) (defBody st) (defScope st) .none kV doc pm an cdv ct) ⟨us, []⟩ = pure (ps.zip us)) : Binds K fd ps [] := by
  obtain ⟨oc, od, kV, doc, pm, an, cdv, ct, osl, rfl, lk, hcd⟩ := F.ex
  exact .all (h kV doc pm an cdv ct)
theorem fun_mk {x qual : Str} {st : Stmt} {f : Addr} {oc : Value} {od an : Option Addr} {osl : Array (Option Value)} {kV doc pm cdv ct : Value} (l : K.lookup f = some ⟨oc, od, .func (PySem.W.fnOf x qual (defArgs st) (defBody st) (defScope st) .none kV doc pm an cdv ct), osl⟩)
    (c : PySem.W.codeIn K cdv qual = true) (k : PySem.W.keepIn K (.ref f) = true) : Fun K x qual st f (PySem.W.fnOf x qual (defArgs st) (defBody st) (defScope st) .none kV doc pm an cdv ct) := ⟨⟨oc, od, kV, doc, pm, an, cdv, ct, osl, rfl, l, c⟩, k⟩
end
theorem hu_of {A : Around} {k : Nat} (hr : Room k A) : A.units + 1 < cLine := Nat.lt_of_le_of_lt (Nat.add_le_add_left (by decide : 1 ≤ 64) _) hr.units
theorem small1000 {n : Nat} (h : n ≤ 1000) : n < sizeLine := Nat.lt_of_le_of_lt h (by decide)
section
variable {X : Cx}
theorem pv (i : Nat) {x : Str} {pos : Pos} (hN : X.N[i]? = some x := by rfl) (hv : Vis X.env.scope x := by first | exact Or.inl rfl | exact Or.inr (Or.inl rfl) | exact Or.inr (Or.inr rfl)) (hd : (x == ("__debug__" : Str)) = false := by decide)
    (hcd : (x == ("__classdict__" : Str)) = false := by decide) : PE X (.Name x pos) (tVar i) := pe_var hN hv hd hcd
theorem jv (i : Nat) {x : Str} {pos : Pos} (hN : X.N[i]? = some x := by rfl) (hv : Vis X.env.scope x := by first | exact Or.inl rfl | exact Or.inr (Or.inl rfl) | exact Or.inr (Or.inr rfl)) (hd : (x == ("__debug__" : Str)) = false := by decide) (hcd : (x == ("__classdict__" : Str)) = false := by decide) : JE X (.Name x pos) (tVar i) := .of (pv i hN hv hd hcd)
end
theorem iteF {A B : Prop} (h : B) : if false = true then A else B := by
  rw [if_neg Bool.false_ne_true]
  exact h
theorem iteT {A B : Prop} (h : A) : if true = true then A else B := by
  rw [if_pos rfl]
  exact h
theorem ite2 {c A B : Prop} [Decidable c] (h1 : c → A) (h2 : ¬ c → B) : if c then A else B := by
  by_cases h : c
  · rw [if_pos h]
    exact h1 h
  · rw [if_neg h]
    exact h2 h
def Same (H H' : Hp) : Prop := ∀ b o, H b = some o → H' b = some o
theorem Same.refl (H : Hp) : Same H H := fun _ _ h => h
theorem Same.trans {H H1 H2 : Hp} (a : Same H H1) (b : Same H1 H2) : Same H H2 := fun c o h => b c o (a c o h)
theorem Same.free {H H' : Hp} (e : Same H H') {l : Addr} (h : H' l = Option.none) : H l = Option.none := by
  cases q : H l with
  | none => rfl
  | some o =>
    rw [e l o q] at h
    cases h
theorem Same.seq {K : PySem.W.Frag} {H H' : Hp} {a : Addr} {xs : List V} (e : Same H H') (h : SqL K H a xs) : SqL K H' a xs := by
  rcases h with (h | ⟨o, h⟩) | h
  · exact .inl (.inl (e _ _ h))
  · exact .inl (.inr ⟨o, e _ _ h⟩)
  · exact .inr h
section
variable {X : Cx}
end
section
variable {κ : Type} [DecidableEq κ]
theorem valV_in {kvs : List (κ × V)} {k : κ} {v : V} (h : valV kvs k = some v) : k ∈ kvs.map (·.1) := by
  have q : (kvs.any fun kv => decide (kv.1 = k)) = true := by
    rw [valV_any, h]
    all_goals rfl
  obtain ⟨p, hp, e⟩ := List.any_eq_true.mp q
  exact List.mem_map.mpr ⟨p, hp, of_decide_eq_true e⟩
end
end L2
set_option Elab.async false
set_option linter.all false
set_option maxRecDepth 100000
set_option maxHeartbeats 4000000
namespace L2
open PySem PySem.Spec PyProof.Rows
theorem freeB : (NameKind.free == NameKind.free) = true := rfl
def closeL (env : Env) : List (Str × NameKind) → List (Str × Addr) → List (Str × Addr)
  | [], cs => cs
  | (n, k) :: r, cs => closeL env r (if k == .free then (n, (env.cells.lookup n).getD 0) :: cs else cs)
theorem closureFor_eq {scope : Scope} {env : Env} (h : ∀ x ∈ scope.names, x.2 = .free → ∃ c, env.cells.lookup x.1 = some c) : closureFor scope env = pure (closeL env scope.names []) := by
  simp only [closureFor]
  have key : ∀ (l : List (Str × NameKind)) (cs : List (Str × Addr)), (∀ x ∈ l, x.2 = .free → ∃ c, env.cells.lookup x.1 = some c) →
      (forIn l cs fun x (r : List (Str × Addr)) => if (x.snd == NameKind.free) = true then (do let a ← cellOf env x.fst; pure (ForInStep.yield ((x.fst, a) :: r)) : Sem (ForInStep (List (Str × Addr)))) else pure (ForInStep.yield r)) = (pure (closeL env l cs) : Sem (List (Str × Addr))) := by
    intro l
    induction l with
    | nil => intro cs _; rfl
    | cons x l ih =>
      intro cs hl
      obtain ⟨n, k⟩ := x
      have ihl := fun cs' => ih cs' fun y hy => hl y (List.mem_cons_of_mem _ hy)
      rw [List.forIn_cons]
      by_cases hk : k = .free
      · subst hk
        obtain ⟨c, hc⟩ := hl (n, .free) List.mem_cons_self rfl
        have e1 : cellOf env n = pure c := by
          unfold cellOf
          have hc' : env.cells.lookup n = some c := hc
          rw [hc']
        have e2 : closeL env ((n, NameKind.free) :: l) cs = closeL env l ((n, c) :: cs) := by
          have hc' : env.cells.lookup n = some c := hc
          show closeL env l (if (NameKind.free == NameKind.free) = true then (n, (env.cells.lookup n).getD 0) :: cs else cs) = _
          rw [if_pos freeB, hc']
          rfl
        rw [e2, ← ihl]
        dsimp only
        rw [if_pos freeB, e1]
        rfl
      · have hb : (k == NameKind.free) = false := by simpa using hk
        have e2 : closeL env ((n, k) :: l) cs = closeL env l cs := by
          show closeL env l (if (k == NameKind.free) = true then (n, (env.cells.lookup n).getD 0) :: cs else cs) = _
          rw [if_neg (by rw [hb]; decide)]
        rw [e2, ← ihl]
        dsimp only
        rw [if_neg (by rw [hb]; decide)]
        rfl
  rw [key scope.names [] h]
  rfl
theorem closeL_some {env : Env} {x : Str} {c : Addr} : ∀ {l : List (Str × NameKind)} {cs : List (Str × Addr)}, (closeL env l cs).lookup x = some c → cs.lookup x = some c ∨ ((x, NameKind.free) ∈ l ∧ c = (env.cells.lookup x).getD 0)
  | [], cs, h => .inl h
  | (n, k) :: r, cs, h => by
    rcases closeL_some (l := r) h with h | ⟨h1, h2⟩
    · by_cases hk : k = .free
      · subst hk
        rw [if_pos freeB, List.lookup_cons] at h
        by_cases hx : x = n
        · subst hx
          simp only [beq_self_eq_true] at h
          exact .inr ⟨List.mem_cons_self, (Option.some.inj h).symm⟩
        · have hb : (x == n) = false := beq_eq_false_iff_ne.mpr hx
          simp only [hb] at h
          exact .inl h
      · have hb : (k == NameKind.free) = false := by simpa using hk
        rw [if_neg (by rw [hb]; decide)] at h
        exact .inl h
    · exact .inr ⟨List.mem_cons_of_mem _ h1, h2⟩
theorem closeL_has {env : Env} {x : Str} : ∀ {l : List (Str × NameKind)} {cs : List (Str × Addr)}, ((x, NameKind.free) ∈ l ∨ ∃ c, cs.lookup x = some c) → ∃ c, (closeL env l cs).lookup x = some c
  | [], cs, h => by
    rcases h with h | h
    · cases h
    · exact h
  | (n, k) :: r, cs, h => by
    show ∃ c, (closeL env r (if (k == NameKind.free) = true then (n, (env.cells.lookup n).getD 0) :: cs else cs)).lookup x = some c
    refine closeL_has (l := r) ?_
    rcases h with h | ⟨c, h⟩
    · rcases List.mem_cons.mp h with h | h
      · cases h
        refine .inr ⟨(env.cells.lookup x).getD 0, ?_⟩
        rw [if_pos freeB, List.lookup_cons]
        simp only [beq_self_eq_true]
      · exact .inl h
    · refine .inr ?_
      by_cases hk : (k == NameKind.free) = true
      · rw [if_pos hk, List.lookup_cons]
        cases hx : x == n with
        | true => exact ⟨_, rfl⟩
        | false => exact ⟨c, h⟩
      · rw [if_neg hk]
        exact ⟨c, h⟩
theorem relabel_look {scope : Scope} {env : Env} {x : Str} {k : NameKind} : ∀ {names : List (Str × NameKind)}, names.lookup x = some k →
    ∃ k', (names.map fun (n, k) => if (k == NameKind.free && env.scope.kind == .function && env.kindOf n == some .cell) then (n, NameKind.cell) else (n, k)).lookup x = some k' ∧ (k' = k ∨ (k = .free ∧ k' = .cell))
  | [], h => by simp at h
  | (n, j) :: r, h => by
    rw [List.map_cons]
    by_cases hx : x = n
    · subst hx
      rw [List.lookup_cons] at h
      simp only [beq_self_eq_true] at h
      cases h
      dsimp only
      by_cases hc : (k == NameKind.free && env.scope.kind == .function && env.kindOf x == some .cell) = true
      · rw [if_pos hc, List.lookup_cons]
        simp only [beq_self_eq_true]
        refine ⟨_, rfl, .inr ⟨?_, rfl⟩⟩
        simp only [Bool.and_eq_true, beq_iff_eq] at hc
        exact hc.1.1
      · rw [if_neg hc, List.lookup_cons]
        simp only [beq_self_eq_true]
        exact ⟨_, rfl, .inl rfl⟩
    · have hb : (x == n) = false := beq_eq_false_iff_ne.mpr hx
      rw [List.lookup_cons] at h
      simp only [hb] at h
      obtain ⟨k', h1, h2⟩ := relabel_look (env := env) (scope := scope) h
      refine ⟨k', ?_, h2⟩
      dsimp only
      by_cases hc : (j == NameKind.free && env.scope.kind == .function && env.kindOf n == some .cell) = true
      · rw [if_pos hc, List.lookup_cons]
        simp only [hb]
        exact h1
      · rw [if_neg hc, List.lookup_cons]
        simp only [hb]
        exact h1
theorem mem_of_lookup {x : Str} {k : NameKind} : ∀ {l : List (Str × NameKind)}, l.lookup x = some k → (x, k) ∈ l
  | [], h => by simp at h
  | (n, j) :: r, h => by
    rw [List.lookup_cons] at h
    by_cases hx : x = n
    · subst hx
      simp only [beq_self_eq_true] at h
      cases h
      exact List.mem_cons_self
    · have hb : (x == n) = false := beq_eq_false_iff_ne.mpr hx
      simp only [hb] at h
      exact List.mem_cons_of_mem _ (mem_of_lookup h)
theorem lookup_of_map {f : Str × NameKind → Str × NameKind} (hf : ∀ p, (f p).1 = p.1) {x : Str} {k : NameKind} : ∀ {l : List (Str × NameKind)}, (l.map f).lookup x = some k → ∃ j, l.lookup x = some j ∧ (f (x, j)).2 = k
  | [], h => by simp at h
  | (n, j) :: r, h => by
    rw [List.map_cons] at h
    have e : f (n, j) = (n, (f (n, j)).2) := by
      have := hf (n, j)
      exact Prod.ext this rfl
    rw [e, List.lookup_cons] at h
    rw [List.lookup_cons]
    by_cases hx : x = n
    · subst hx
      simp only [beq_self_eq_true] at h ⊢
      exact ⟨j, rfl, Option.some.inj h⟩
    · have hb : (x == n) = false := beq_eq_false_iff_ne.mpr hx
      simp only [hb] at h ⊢
      exact lookup_of_map hf h
def cxC (X : Cx) (N : List Str) (scope : Scope) (C : Addr) (s₂ : Shared) (H₂ : Hp) (fp : List Addr) (pins : List (Addr × Obj)) : Cx where
  prog := X.prog
  w := X.w
  K := X.K
  mg := X.mg
  base := X.base
  A := X.A
  N := N
  s₀ := s₂
  H₀ := H₂
  env := compEnvC scope (closeL X.env scope.names []) C X.env
  outer := X.stack
  stack := X.stack
  ex := fp
  fn := fun _ => false
  calm := X.calm
  pn := X.pn ++ pins
  xe := fun _ _ => False
def stC (ix : List (Option Nat)) (σ : St) : St := ix.map fun o => o.bind fun j => (σ[j]?).join
def ixOk (N' N : List Str) (sc esc : Scope) (ix : List (Option Nat)) : Bool :=
  ix.length == N'.length && (ix.zip N').all fun p => match p.1 with
    | none => true
    | some j => N[j]? == some p.2 && sc.names.lookup p.2 == some .free && (esc.names.lookup p.2 == some .cell || esc.names.lookup p.2 == some .free)
structure CScope (X : Cx) (N' : List Str) (ix : List (Option Nat)) (scope : Scope) : Prop where
  kind : scope.kind = .function
  nocell : (scope.names.all fun x => x.2 != .cell) = true
  locs : (scope.names.all fun x => x.2 != .local || scope.names.lookup x.1 == some .local) = true
  frees : (scope.names.all fun x => x.2 != .free || (X.env.scope.names.lookup x.1 == some .cell || X.env.scope.names.lookup x.1 == some .free)) = true
  ixs : ixOk N' X.N scope X.env.scope ix = true
section
variable {X : Cx} {N' : List Str} {ix : List (Option Nat)} {scope : Scope} {pins : List (Addr × Obj)} {σ : St} {H : Hp} {s : Shared}
theorem CScope.cellH (S : CScope X N' ix scope) : ∀ y ∈ scope.names, y.2 ≠ .cell := fun y hy e => by
  have := List.all_eq_true.mp S.nocell y hy
  rw [e] at this
  exact absurd this (by decide)
theorem CScope.locH (S : CScope X N' ix scope) : ∀ y ∈ scope.names, y.2 = .local → scope.names.lookup y.1 = some .local := fun y hy e => by
  have := List.all_eq_true.mp S.locs y hy
  simp only [e, Bool.or_eq_true, bne_self_eq_false, Bool.false_eq_true, false_or, beq_iff_eq] at this
  exact this
theorem CScope.freeH (S : CScope X N' ix scope) (ok : X.Ok) : ∀ x ∈ scope.names, x.2 = .free → ∃ c, X.env.cells.lookup x.1 = some c := fun x hx e => by
  have := List.all_eq_true.mp S.frees x hx
  simp only [e, Bool.or_eq_true, bne_self_eq_false, Bool.false_eq_true, false_or, beq_iff_eq] at this
  exact ok.has x.1 this
theorem CScope.clook (S : CScope X N' ix scope) (ok : X.Ok) {x : Str} {c : Addr} (h : (closeL X.env scope.names []).lookup x = some c) : X.env.cells.lookup x = some c ∧ (x, NameKind.free) ∈ scope.names := by
  rcases closeL_some h with h | ⟨h1, h2⟩
  · simp at h
  · obtain ⟨c', hc'⟩ := S.freeH ok _ h1 rfl
    have hc2 : X.env.cells.lookup x = some c' := hc'
    rw [hc2] at h2
    subst h2
    exact ⟨hc2, h1⟩
theorem cx_ok {C : Addr} {fp : List Addr} (S : CScope X N' ix scope) (I : Inv X pins σ H s) (hC : s.heap.objs.size ≤ C) (hf : ∀ b ∈ fp, FpOk X pins H b) (hfo : ∀ b ∈ fp, b < s.heap.objs.size) : (cxC X N' scope C s H fp pins).Ok where
  mod := I.ok.mod
  kind := S.kind
  glob := I.ok.glob
  blt := I.ok.blt
  above := hC
  inj := fun x y c h1 h2 => I.ok.inj x y c (S.clook I.ok h1).1 (S.clook I.ok h2).1
  has := fun x hx => by
    have hx' : (relabel scope X.env).names.lookup x = some .cell ∨ (relabel scope X.env).names.lookup x = some .free := hx
    refine closeL_has (.inl ?_)
    have go : ∀ k, (k = NameKind.cell ∨ k = .free) → (relabel scope X.env).names.lookup x = some k → (x, NameKind.free) ∈ scope.names := fun k hk h => by
      obtain ⟨j, h1, h2⟩ := lookup_of_map (f := fun (n, k) => if (k == NameKind.free && X.env.scope.kind == .function && X.env.kindOf n == some .cell) then (n, NameKind.cell) else (n, k)) (fun p => by dsimp only; split <;> rfl) h
      have hm := mem_of_lookup h1
      by_cases hj : j = .free
      · subst hj; exact hm
      · exfalso
        have hb : (j == NameKind.free) = false := by simpa using hj
        dsimp only at h2
        rw [hb, Bool.false_and, Bool.false_and, if_neg (by decide)] at h2
        have h2' : j = k := h2
        rcases hk with e | e
        · exact S.cellH _ hm (h2'.trans e)
        · exact hj (h2'.trans e)
    rcases hx' with h | h
    · exact go _ (.inl rfl) h
    · exact go _ (.inr rfl) h
  cab := fun x c h _ => by cases h
  hd := I.ok.hd
  frames := I.ok.frames
  stk := .inl rfl
  exf := fun b hb => ⟨Nat.ne_of_lt (Nat.lt_of_lt_of_le (hfo b hb) hC), fun x c h => (hf b hb).2.2.2.2.1 x c (S.clook I.ok h).1⟩
  bs := I.bs
  bsz := Nat.le_trans I.ok.bsz I.sz
  noex := fun b o e hb => by
    rcases (hf b hb).2.2.2.1 with h | h
    · exact I.ok.noex b o e h
    · exact absurd (Nat.lt_of_lt_of_le (Heap.lt_size e) (Nat.le_trans I.ok.bsz h)) (Nat.lt_irrefl _)
  exfs := fun b hb hm => by
    rcases List.mem_cons.mp (I.stkSub b hm) with e | e
    · exact (hf b hb).2.1 e
    · exact (hf b hb).2.2.1 e
  funs := I.stack
  frf := I.stkFree
theorem inv_block {C D : Addr} {fp : List Addr} {h₁ : Heap} {m : Str → Option Value} {t' : Nat} {n₀ : Nat} (S : CScope X N' ix scope) (I : Inv X pins σ H s) (hf : ∀ b ∈ fp, FpOk X pins H b) (hfo : ∀ b ∈ fp, b < s.heap.objs.size)
    (hD : s.heap.objs.size ≤ D) (hC : s.heap.objs.size ≤ C) (hDC : D ≠ C) (kp : ∀ b o, s.heap.get? b = some o → h₁.get? b = some o) (hn : h₁.Ns C m) (hl : h₁.get? D = some { cls := .type "list", data := .seq #[] n₀ }) :
    Inv (cxC X N' scope C s H fp pins) [] (stC ix σ) (upd H D (.lst [])) { s with heap := h₁, toks := t' } where
  ok := cx_ok S I hC hf hfo
  os := rfl
  bare := I.bare
  base := Un.laid kp hD (I.hok.fresh hD)
  loc := by
    refine ⟨m, hn, fun i x v e1 e2 e3 => ?_⟩
    have hix := S.ixs
    unfold ixOk at hix
    rw [Bool.and_eq_true] at hix
    obtain ⟨hlen, hall⟩ := hix
    have hlen' : ix.length = N'.length := by simpa using hlen
    have e1' : N'[i]? = some x := e1
    unfold stC at e2
    rw [List.getElem?_map] at e2
    cases ho : ix[i]? with
    | none => rw [ho] at e2; cases e2
    | some o =>
      rw [ho] at e2
      cases o with
      | none => cases e2
      | some j =>
        have e2' : (σ[j]?).join = some v := Option.some.inj e2
        have hz : (ix.zip N')[i]? = some (some j, x) := by
          rw [List.getElem?_zip_eq_some]
          exact ⟨ho, e1'⟩
        have hm := List.all_eq_true.mp hall _ (List.mem_of_getElem? hz)
        dsimp only at hm
        simp only [Bool.and_eq_true, beq_iff_eq, Bool.or_eq_true] at hm
        obtain ⟨⟨hN, hfr⟩, hk⟩ := hm
        have e2'' : σ[j]? = some (some v) := by
          cases q : σ[j]? with
          | none => rw [q] at e2'; cases e2'
          | some z =>
            rw [q] at e2'
            have : z = some v := e2'
            rw [this]
        obtain ⟨mX, hnX, hlX⟩ := I.loc
        have hvis : Vis X.env.scope x := by
          rcases hk with h | h
          · exact .inr (.inl h)
          · exact .inr (.inr h)
        obtain ⟨u, ru, lu⟩ := hlX j x v hN e2'' hvis
        refine ⟨u, ru, ?_⟩
        rcases lu with ⟨hk', _⟩ | ⟨_, c, hc, hcell⟩
        · exfalso
          have hk'' : X.env.scope.names.lookup x = some .local := hk'
          rcases hk with h | h <;> rw [h] at hk'' <;> cases hk''
        · right
          obtain ⟨k', r1, r2⟩ := relabel_look (scope := scope) (env := X.env) hfr
          refine ⟨?_, ?_⟩
          · rcases r2 with z | ⟨_, z⟩
            · right; rw [z] at r1; exact r1
            · left; rw [z] at r1; exact r1
          · obtain ⟨c', hc'⟩ := closeL_has (env := X.env) (cs := []) (.inl (mem_of_lookup hfr))
            have := (S.clook I.ok hc').1
            rw [hc] at this
            cases this
            obtain ⟨o, ho', hd⟩ := hcell
            exact ⟨c, hc', o, kp _ _ ho', hd⟩
  cell := fun x c h => by
    obtain ⟨v, o, ho, hd⟩ := I.cell x c (S.clook I.ok h).1
    exact ⟨v, o, kp _ _ ho, hd⟩
  free := by
    show (upd H D _) C = none
    rw [upd_ne (Ne.symm hDC)]
    exact I.hok.fresh hC
  freeC := fun x c h => by
    have h1 := (S.clook I.ok h).1
    obtain ⟨v, o, ho, hd⟩ := I.cell x c h1
    rw [upd_ne (Nat.ne_of_lt (Nat.lt_of_lt_of_le (Heap.lt_size ho) hD))]
    exact I.freeC x c h1
  pin := fun p hp => by
    have hp' : p ∈ X.pn ++ pins := by
      have : p ∈ (X.pn ++ pins) ++ [] := hp
      simpa using this
    obtain ⟨e, n, ne, nf, d⟩ := I.pin p hp'
    have hlt := Heap.lt_size e
    refine ⟨kp _ _ e, ?_, Nat.ne_of_lt (Nat.lt_of_lt_of_le hlt hC), fun hm => ?_, d⟩
    · rw [upd_ne (Nat.ne_of_lt (Nat.lt_of_lt_of_le hlt hD))]; exact n
    · rcases List.mem_cons.mp (I.stkSub p.1 hm) with z | z
      · exact ne z
      · exact nf z
  hok := I.hok.laid kp hD ⟨Nat.zero_le _, [], n₀, .nil, hl⟩
  len := by
    have hix := S.ixs
    unfold ixOk at hix
    rw [Bool.and_eq_true] at hix
    have : ix.length = N'.length := by simpa using hix.1
    show (stC ix σ).length = N'.length
    unfold stC
    rw [List.length_map, this]
theorem inv_back {C : Addr} {fp : List Addr} {σ' : St} {H' : Hp} {s' : Shared} {pl : List (Addr × Obj)} (I : Inv X pins σ H s) (hf : ∀ b ∈ fp, FpOk X pins H b) (J : Inv (cxC X N' scope C s H fp pins) pl σ' H' s') : Inv X pins σ H' s' :=
  I.call' (ch := fp) J.os J.base J.hok J.bare fun b hb => ⟨(hf b hb).2.2.2.1, (hf b hb).2.1, (hf b hb).2.2.2.2.1, (hf b hb).2.2.2.2.2⟩
theorem inv_gone {C : Addr} {H' : Hp} {s₀ s' : Shared} {h' : Heap} (I₀ : Inv X pins σ H s₀) (I : Inv X pins σ H' s') (hC : s₀.heap.objs.size ≤ C) (hn : H' C = none) (sb : Heap.SameBut C s'.heap h') : Inv X pins σ H' { s' with heap := h' } := by
  refine I.turned (it := C) (t' := s'.toks) (fun b o hb e => (sb.2 b hb).trans e) hn (Nat.ne_of_gt (Nat.lt_of_lt_of_le I₀.lt hC)) (.inr (Nat.le_trans I₀.sz hC)) (fun x c e z => ?_) fun p hp z => ?_
  · obtain ⟨v, q⟩ := I₀.cell x c e
    exact absurd (Nat.lt_of_lt_of_le q.lt (by rw [z]; exact hC)) (Nat.lt_irrefl _)
  · exact absurd (Nat.lt_of_lt_of_le (Heap.lt_size (I₀.pin p hp).1) (by rw [z]; exact hC)) (Nat.lt_irrefl _)
end
def PTs (X : Cx) (ifs : List Expr) (t : TT) : Prop :=
  ∀ (pins : List (Addr × Obj)) (s : Shared) (σ : St) (H : Hp) (Q : Bool → Hp → Prop), Inv X pins σ H s → t σ H Q →
    wpAny (model X.prog X.w) X.A (forIn ifs true fun c r => if r = true then do let ok ← isTrue c X.env (eval c X.env); pure (ForInStep.yield ok) else pure (ForInStep.yield r)) (TP X pins σ Q) X.xe s
@[irreducible] def JTs (X : Cx) (ifs : List Expr) (t : TT) : Prop := PTs X ifs t
theorem JTs.of {X : Cx} {ifs : List Expr} {t : TT} (h : PTs X ifs t) : JTs X ifs t := by unfold JTs; exact h
theorem JTs.to {X : Cx} {ifs : List Expr} {t : TT} (h : JTs X ifs t) : PTs X ifs t := by unfold JTs at h; exact h
def tYes : TT := fun _ H Q => Q true H
theorem pts_nil {X : Cx} : PTs X [] tYes := fun _ _ _ H _ I h => wpAny_tests_nil ⟨H, I, h⟩
theorem jts_nil {X : Cx} : JTs X [] tYes := .of (pts_nil )
theorem pts_one {X : Cx} {c : Expr} {t : TT} (h : PT X c t) : PTs X [c] t := fun pins s σ H Q I hw => wpAny_tests_one (h pins s σ H Q I hw)
theorem jts_one {X : Cx} {c : Expr} {t : TT} (h : JT X c t) : JTs X [c] t := .of (pts_one h.to)
section
variable {prog : Program} {w : World} {A : Around} {R : Result → Shared → Prop} {s : Shared}
theorem compLoop_own {elt target iter : Expr} {ifs : List Expr} {scope : Scope} {pos : Pos} {it acc : Value} {env : Env} (I : Nat → Shared → Prop)
    (turn : ∀ n s, I n s → wpAny (model prog w) A (pyNext it) (fun r s₁ => match r with
      | none => R (.ok .next) s₁
      | some v => wpAny (model prog w) A (letOwnedTupleGo target it v) (fun _ s₁' => wpAny (model prog w) A (assign target env v) (fun _ s₂ =>
          wpAny (model prog w) A (forIn ifs true fun c r => if r = true then do let ok ← isTrue c env (eval c env); pure (ForInStep.yield ok) else pure (ForInStep.yield r)) (fun ok s₃ =>
            if ok = true then wpAny (model prog w) A (eval elt env) (fun x s₄ =>
              wpAny (model prog w) A (call (.builtin "list.append") [acc, x]) (fun _ s₅ => ∃ m, m < n ∧ I m s₅) (fun _ _ => False) s₄) (fun _ _ => False) s₃
            else ∃ m, m < n ∧ I m s₃) (fun _ _ => False) s₂) (fun _ _ => False) s₁') (fun _ _ => False) s₁) (fun _ _ => False) s)
    (n : Nat) (h : I n s) :
    codeAny (model prog w) A (.compLoop (.ListComp elt [⟨target, iter, ifs, 0⟩] scope pos) 0 it acc env) R s := by
  refine codeAny_loop rfl I (fun n s hI => ?_) n h
  show wpAny _ A ((compTurn (.ListComp elt [⟨target, iter, ifs, 0⟩] scope pos) 0 it acc env).onRaise (fun x => do noteFrame x env; theTreesLotGoes x)) _ _ s
  refine wpAny_noted ?_
  rw [compTurn_list]
  refine wpAny_bind (wpAny_standAt (wpAny_bind (wpAny_mono (turn n s hI) (fun r s₁ h₁ => ?_) fun _ _ h' => h'.elim)))
  cases r with
  | none => exact wpAny_pure h₁
  | some v =>
    refine wpAny_bind (wpAny_mono h₁ (fun _ s₁' h₁' => ?_) fun _ _ h' => h'.elim)
    refine wpAny_bind (wpAny_mono h₁' (fun _ s₂ h₂ => wpAny_bind (wpAny_mono h₂ (fun ok s₃ h₃ => ?_) fun _ _ h' => h'.elim)) fun _ _ h' => h'.elim)
    cases ok with
    | false => exact wpAny_pure ⟨rfl, h₃⟩
    | true =>
      exact wpAny_bind (wpAny_bind (wpAny_mono h₃ (fun x s₄ h₄ => wpAny_bind (wpAny_mono h₄ (fun _ s₅ h₅ => wpAny_pure (wpAny_pure ⟨rfl, h₅⟩)) fun _ _ h' => h'.elim)) fun _ _ h' => h'.elim))
end
def tBlk (J : It) (g : TG) (tt : TT) (te : TE) (D : Addr) (σ : St) (H : Hp) (Q : Hp → Prop) : Prop :=
  ∃ W : Nat → Nat → St → Hp → Prop, (∃ m, W 0 m σ (upd H D (.lst []))) ∧ ∀ i m σ' H', W i m σ' H' →
    (J.stop i H' ∧ Q H') ∨ (J.go i H' ∧ ∃ N : St → Hp → Prop, (∀ σ2 H2, N σ2 H2 → ∃ m', m' < m ∧ W (i + 1) m' σ2 H2) ∧ ∀ x H2, J.yld i H' x H2 → g x σ' H2 fun σ2 H3 => tt σ2 H3 fun b H4 =>
      if b = true then te σ2 H4 fun v H5 => ∃ ys, H5 D = some (.lst ys) ∧ ys.length < sizeLine ∧ N σ2 (upd H5 D (.lst (ys ++ [v]))) else N σ2 H4)
def tLC (wi : TI) (ix : List (Option Nat)) (g : TG) (tt : TT) (te : TE) : TE := fun σ H Q => wi σ H fun J H1 => ∀ D, H1 D = none → tBlk J g tt te D (stC ix σ) H1 fun H2 => Q (.ref D) H2
section
variable {X : Cx} {N' : List Str} {ix : List (Option Nat)} {scope : Scope}
theorem block_run {elt iter target : Expr} {ifs : List Expr} {pos : Pos} {g : TG} {tt : TT} {te : TE} {pins : List (Addr × Obj)} {σ : St} {H : Hp} {s : Shared} {it : Addr} {fp : List Addr} {tn : Nat → Heap → Prop} {J : It} {E : Value → Shared → Prop}
    {RR : Value → Addr → Result → Shared → Prop} {Q : Addr → Hp → Prop}
    (hc : X.calm = true) (S : CScope X N' ix scope) (I : Inv X pins σ H s) (T : Turn X.prog X.w X.K target J fp it tn) (st : tn 0 s.heap) (hf : ∀ b ∈ fp, FpOk X pins H b)
    (hb : ∀ C s₂ H₂ fp pins, PG (cxC X N' scope C s₂ H₂ fp pins) target g ∧ PTs (cxC X N' scope C s₂ H₂ fp pins) ifs tt ∧ PE (cxC X N' scope C s₂ H₂ fp pins) elt te)
    (h : ∀ D, H D = none → tBlk J g tt te D (stC ix σ) H (Q D))
    (fin : ∀ (D C : Addr) (H' : Hp) (s' : Shared) (m : Str → Option Value), s.heap.objs.size ≤ C → H' C = none → s'.heap.Ns C m → Inv X pins σ H' s' → Q D H' → RR (.ref D) C (.ok .next) s') :
    wpAny (model X.prog X.w) X.A (newList []) (fun acc s₃ => wpAny (model X.prog X.w) X.A (newFunctionEnv scope X.env.globals (closeL X.env scope.names []) [] X.env.qual none .none (some X.env)) (fun cenv s₄ =>
      codeAny (model X.prog X.w) X.A (.compStart (.ListComp elt [⟨target, iter, ifs, 0⟩] scope pos) 0 (.ref it) acc { cenv with scope := relabel scope X.env }) (RR acc cenv.locals) s₄) E s₃) E s := by
  have hfo : ∀ b ∈ fp, b < s.heap.objs.size := fun b hb => by
    obtain ⟨o, e, _⟩ := T.obj _ _ st b hb
    exact Heap.lt_size e
  refine wpAny_newObj_type (wpAny_newFunctionEnv S.cellH (by intro y hy; simp at hy) (fun h₁ hns₁ hsb₁ => ?_) S.kind)
  dsimp only at hns₁ hsb₁ ⊢
  generalize hH2 : s.heap.push { cls := .type "list", dict := none, data := .seq ([] : List Value).toArray } = H2 at hns₁ hsb₁ ⊢
  have hC : H2.objs.size = s.heap.objs.size + 1 := by rw [← hH2, Heap.size_push]
  have hDC : s.heap.objs.size ≠ H2.objs.size := by rw [hC]; exact Nat.ne_of_lt (Nat.lt_succ_self _)
  have hCle : s.heap.objs.size ≤ H2.objs.size := by rw [hC]; exact Nat.le_succ _
  have below : ∀ b, b < s.heap.objs.size → b ≠ H2.objs.size := fun b hb => by rw [hC]; exact Nat.ne_of_lt (Nat.lt_succ_of_lt hb)
  have old : ∀ b o, s.heap.get? b = some o → h₁.get? b = some o := fun b o e => hsb₁.extBut b o (below b (Heap.lt_size e)) (Heap.get?_push_of_some _ (hH2 ▸ Heap.get?_push_of_some _ e))
  have hacc : h₁.get? s.heap.objs.size = some { cls := .type "list", data := .seq #[] 0 } := hsb₁.extBut _ _ hDC (Heap.get?_push_of_some _ (hH2 ▸ Heap.get?_push_size _ rfl))
  obtain ⟨W, ⟨m0, w0⟩, turn⟩ := h s.heap.objs.size (I.hok.fresh (Nat.le_refl _))
  have I1 : Inv (cxC X N' scope H2.objs.size s H fp pins) [] (stC ix σ) (upd H s.heap.objs.size (.lst [])) { s with heap := h₁, toks := s.toks + ([] : List (Str × Value)).length } :=
    inv_block S I hf hfo (Nat.le_refl _) hCle hDC old hns₁ hacc
  have st₁ : tn 0 h₁ := T.keep _ _ _ st fun b hb o e => old b o e
  have fpn : ∀ b ∈ fp, (upd H s.heap.objs.size (.lst [])) b = none := fun b hb => by
    rw [upd_ne (Nat.ne_of_lt (hfo b hb))]
    exact (hf b hb).1
  obtain ⟨hg, htt, hte⟩ := hb H2.objs.size s H fp pins
  have okY := I1.ok
  have stat : ∀ {H' : Hp}, (∀ b ∈ fp, H' b = none) → ∀ b ∈ fp, FpOk (cxC X N' scope H2.objs.size s H fp pins) [] H' b := fun {H'} hn b hb =>
    ⟨hn b hb, (okY.exf b hb).1, okY.exfs b hb, .inl hb, (okY.exf b hb).2, fun p hp => by
      have hp' : p ∈ X.pn ++ pins := by
        have : p ∈ (X.pn ++ pins) ++ [] := hp
        simpa using this
      exact (hf b hb).2.2.2.2.2 p hp'⟩
  have loop : codeAny (model X.prog X.w) X.A (.compLoop (.ListComp elt [⟨target, iter, ifs, 0⟩] scope pos) 0 (.ref it) (.ref s.heap.objs.size) (compEnvC scope (closeL X.env scope.names []) H2.objs.size X.env))
      (RR (.ref s.heap.objs.size) H2.objs.size) { s with heap := h₁, toks := s.toks + ([] : List (Str × Value)).length } := by
    refine compLoop_own (fun n s' => ∃ i σ' H', Inv (cxC X N' scope H2.objs.size s H fp pins) [] σ' H' s' ∧ tn i s'.heap ∧ (∀ b ∈ fp, H' b = none) ∧ W i n σ' H') ?_ m0 ⟨0, _, _, I1, st₁, fpn, w0⟩
    rintro n s3 ⟨i, σ3, H3, I3, st3, fr3, w3⟩
    rcases turn i n σ3 H3 w3 with ⟨stop, qn⟩ | ⟨go, NN, hNN, step⟩
    · refine thn (T.done (cxC X N' scope H2.objs.size s H fp pins) rfl rfl rfl hc i [] s3 σ3 H3 _ I3 (stat fr3) st3 stop) fun r s4 ⟨hr, I4⟩ => ?_
      subst hr
      obtain ⟨mm, hnm, _⟩ := I4.loc
      exact fin _ _ H3 s4 mm hCle I4.free hnm (inv_back I hf I4) qn
    · refine thn (T.item (cxC X N' scope H2.objs.size s H fp pins) rfl rfl rfl hc i [] s3 σ3 H3 _ I3 (stat fr3) st3 go) fun r s4 ⟨u, hr, h4⟩ => ?_
      subst hr
      refine thn h4 fun _ s5 ⟨x, H5, I5, r5, y5, st5, fr5⟩ => ?_
      have I5' := I5.pinned (stat fr5) (T.obj _ _ st5)
      refine thn (hg _ s5 σ3 H5 x u _ I5' r5 (step x H5 y5)) fun _ s6 ⟨σ6, H6, I6, q6⟩ => ?_
      refine thn (htt _ s6 σ6 H6 _ I6 q6) fun ok s7 ⟨H7, I7, q7⟩ => ?_
      have again : ∀ {σ8 : St} {H8 : Hp} {s8 : Shared}, Inv (cxC X N' scope H2.objs.size s H fp pins) ([] ++ pinsAt fp s5.heap) σ8 H8 s8 → NN σ8 H8 →
          ∃ m, m < n ∧ ∃ i σ' H', Inv (cxC X N' scope H2.objs.size s H fp pins) [] σ' H' s8 ∧ tn i s8.heap ∧ (∀ b ∈ fp, H' b = none) ∧ W i m σ' H' := fun {σ8 H8 s8} I8 n8 => by
        obtain ⟨m', hm, w8⟩ := hNN σ8 H8 n8
        refine ⟨m', hm, i + 1, σ8, H8, I8.unpinned, T.keep _ _ _ st5 fun b hb o e => (I8.pin (b, o) (List.mem_append_right _ (List.mem_append_right _ (mem_pinsAt hb e)))).1, fun b hb => ?_, w8⟩
        obtain ⟨o, e, d⟩ := T.obj _ _ st5 b hb
        exact (I8.pin (b, o) (List.mem_append_right _ (List.mem_append_right _ (mem_pinsAt hb e)))).2.1
      cases ok with
      | false =>
        rw [if_neg Bool.false_ne_true] at q7 ⊢
        exact again I7 q7
      | true =>
        rw [if_pos rfl] at q7 ⊢
        refine thn (hte _ s7 σ6 H7 _ I7 q7) fun v s8 ⟨y, H8, I8, r8, q8⟩ => ?_
        obtain ⟨ys, hy, hz, q8⟩ := q8
        refine thn (mt_append (X := cxC X N' scope H2.objs.size s H fp pins) _ s8 σ6 H8 (.ref s.heap.objs.size) [y] (.ref s.heap.objs.size) [v] (fun _ H9 => NN σ6 H9) I8 rfl (.cons r8 .nil) ⟨_, ys, y, rfl, rfl, hy, hz, q8⟩) fun _ s9 ⟨_, H9, I9, _, q9⟩ => ?_
        exact again I9 q9
  exact codeAny_compStart_list loop (T.self X.A 0 _ _ _ st₁ loop)
theorem pe_lc {elt iter target : Expr} {ifs : List Expr} {pos : Pos} {wi : TI} {g : TG} {tt : TT} {te : TE} (hc : X.calm = true) (S : CScope X N' ix scope) (hi : PI X target iter wi)
    (hb : ∀ C s₂ H₂ fp pins, PG (cxC X N' scope C s₂ H₂ fp pins) target g ∧ PTs (cxC X N' scope C s₂ H₂ fp pins) ifs tt ∧ PE (cxC X N' scope C s₂ H₂ fp pins) elt te)
    (hs : ∀ x, foldedSetIterable iter X.env x = pure x := by intro _; rfl) : PE X (.ListComp elt [⟨target, iter, ifs, 0⟩] scope pos) (tLC wi ix g tt te) := by
  intro pins s σ H Q I h
  rw [eval_ListComp]
  refine wpAny_comprehension_free (use := none) rfl hs (closureFor_eq (S.freeH I.ok)) S.kind S.locH ?_
  refine thn (hi pins s σ H _ I h) fun xv s1 h1 => thn h1 fun itv s2 h2 => ?_
  obtain ⟨it, fp, tn, J, H2, e, I2, T, st2, f2, q2⟩ := h2
  subst e
  refine block_run (RR := fun acc C => compPost (model X.prog X.w) X.A X.xe none (EP X pins σ Q) acc C) (Q := fun D H' => Q (.ref D) H') hc S I2 T st2 f2 hb q2 ?_
  intro D C H' s' m hC hn hm I' q
  exact ⟨m, hm, fun h' sb => ⟨.ref D, H', inv_gone I2 I' hC hn sb, rfl, q⟩⟩
theorem je_lc {elt iter target : Expr} {ifs : List Expr} {pos : Pos} {wi : TI} {g : TG} {tt : TT} {te : TE} (hc : X.calm = true) (S : CScope X N' ix scope) (hi : JI X target iter wi) (hb : ∀ C s₂ H₂ fp pins, JG (cxC X N' scope C s₂ H₂ fp pins) target g ∧ JTs (cxC X N' scope C s₂ H₂ fp pins) ifs tt ∧ JE (cxC X N' scope C s₂ H₂ fp pins) elt te) (hs : ∀ x, foldedSetIterable iter X.env x = pure x := by intro _; rfl) : JE X (.ListComp elt [⟨target, iter, ifs, 0⟩] scope pos) (tLC wi ix g tt te) := .of (pe_lc hc S hi.to (fun C s₂ H₂ fp pins => ⟨(hb C s₂ H₂ fp pins).1.to, (hb C s₂ H₂ fp pins).2.1.to, (hb C s₂ H₂ fp pins).2.2.to⟩) hs)
theorem ps_setLC {i : Nat} {x : Str} {elt iter target : Expr} {ifs : List Expr} {pos spos px : Pos} {wi : TI} {g : TG} {tt : TT} {te : TE} (hN : X.N.Nodup) (hxi : X.N[i]? = some x) (hx : Loc X.env.scope x) (hc : X.calm = true) (S : CScope X N' ix scope) (hi : PI X target iter wi)
    (hb : ∀ C s₂ H₂ fp pins, PG (cxC X N' scope C s₂ H₂ fp pins) target g ∧ PTs (cxC X N' scope C s₂ H₂ fp pins) ifs tt ∧ PE (cxC X N' scope C s₂ H₂ fp pins) elt te)
    (hsw : swapsWith (.ListComp elt [⟨target, iter, ifs, 0⟩] scope pos) (some (.Name x px)) spos.line X.env = pure true := by rfl)
    (hs : ∀ x, foldedSetIterable iter X.env x = pure x := by intro _; rfl) (hf : X.fn x = true ∨ X.env.scope.names.lookup x = some .local := by first | exact .inl rfl | exact .inr rfl | assumption) :
    PS X (.Assign [.Name x px] (.ListComp elt [⟨target, iter, ifs, 0⟩] scope pos) spos) (tAsg (tLC wi ix g tt te) (gName i)) := by
  intro pins s σ H D I h
  rw [exec_Assign_Name_used _ _ _ _ hsw]
  refine wpAny_bind (wpAny_standAt (wpAny_bind ?_))
  show wpAny _ X.A (do let _ ← comprehension (.ListComp elt [⟨target, iter, ifs, 0⟩] scope pos) scope X.env _ (newList []) false (eval iter X.env) (some (assign (.Name x px) X.env))) _ _ s
  refine wpAny_bind (thn (wpAny_comprehension_free (use := some (assign (.Name x px) X.env)) (Q := fun _ s' => SP X pins D .next s') rfl hs (closureFor_eq (S.freeH I.ok)) S.kind S.locH ?_) fun _ s' hq => wpAny_pure (wpAny_pure hq))
  refine thn (hi pins s σ H _ I h) fun xv s1 h1 => thn h1 fun itv s2 h2 => ?_
  obtain ⟨it, fp, tn, J, H2, e, I2, T, st2, f2, q2⟩ := h2
  subst e
  refine block_run (RR := fun acc C => compPost (model X.prog X.w) X.A X.xe (some (assign (.Name x px) X.env)) (fun _ s' => SP X pins D .next s') acc C) (Q := fun D' H' => gName i (.ref D') σ H' D.nx) hc S I2 T st2 f2 hb q2 ?_
  intro D' C H' s' m hC hn hm I' q
  show wpAny _ X.A (assign (.Name x px) X.env (.ref D')) _ _ _
  refine wpAny_assign_Name (store_ok2 I' hN hxi hx (v := .ref D') rfl (fun s'' I'' hch => ?_) hf)
  obtain ⟨a, sb, ha⟩ := hch
  have hCa : C ≠ a := by
    rcases ha with z | z
    · rw [z]; exact Nat.ne_of_gt (Nat.lt_of_lt_of_le I2.lt hC)
    · intro e
      obtain ⟨v, qc⟩ := I2.cell x a z
      exact absurd (Nat.lt_of_lt_of_le qc.lt (by rw [← e]; exact hC)) (Nat.lt_irrefl _)
  refine ⟨m, hm.sameBut sb hCa, fun h' sb' => ?_⟩
  refine ⟨_, H', ?_, q⟩
  refine I''.turned (it := C) (t' := s''.toks) (fun b o hb e => (sb'.2 b hb).trans e) hn (Nat.ne_of_gt (Nat.lt_of_lt_of_le I2.lt hC)) (.inr (Nat.le_trans I2.sz hC)) (fun y c e z => ?_) fun p hp z => ?_
  · obtain ⟨v, qc⟩ := I2.cell y c e
    exact absurd (Nat.lt_of_lt_of_le qc.lt (by rw [z]; exact hC)) (Nat.lt_irrefl _)
  · exact absurd (Nat.lt_of_lt_of_le (Heap.lt_size (I2.pin p hp).1) (by rw [z]; exact hC)) (Nat.lt_irrefl _)
theorem js_setLC {i : Nat} {x : Str} {elt iter target : Expr} {ifs : List Expr} {pos spos px : Pos} {wi : TI} {g : TG} {tt : TT} {te : TE} (hN : X.N.Nodup) (hxi : X.N[i]? = some x) (hx : Loc X.env.scope x) (hc : X.calm = true) (S : CScope X N' ix scope) (hi : JI X target iter wi) (hb : ∀ C s₂ H₂ fp pins, JG (cxC X N' scope C s₂ H₂ fp pins) target g ∧ JTs (cxC X N' scope C s₂ H₂ fp pins) ifs tt ∧ JE (cxC X N' scope C s₂ H₂ fp pins) elt te) (hsw : swapsWith (.ListComp elt [⟨target, iter, ifs, 0⟩] scope pos) (some (.Name x px)) spos.line X.env = pure true := by rfl) (hs : ∀ x, foldedSetIterable iter X.env x = pure x := by intro _; rfl) (hf : X.fn x = true ∨ X.env.scope.names.lookup x = some .local := by first | exact .inl rfl | exact .inr rfl | assumption) : JS X (.Assign [.Name x px] (.ListComp elt [⟨target, iter, ifs, 0⟩] scope pos) spos) (tAsg (tLC wi ix g tt te) (gName i)) := .of (ps_setLC hN hxi hx hc S hi.to (fun C s₂ H₂ fp pins => ⟨(hb C s₂ H₂ fp pins).1.to, (hb C s₂ H₂ fp pins).2.1.to, (hb C s₂ H₂ fp pins).2.2.to⟩) hsw hs hf)
end
end L2
set_option Elab.async false
set_option linter.all false
set_option maxRecDepth 100000
set_option maxHeartbeats 4000000
namespace L2
open PySem PySem.Spec PyProof.Rows
def Its (x : Str) : It := ⟨fun i _ => i < x.cps.size, fun i H v H' => H' = H ∧ ∃ c, x.cps[i]? = some c ∧ v = .str ⟨#[c]⟩, fun i _ => i = x.cps.size⟩
theorem turn_str {P : Program} {w : World} {K : PySem.W.Frag} {tg : Expr} (it : Addr) (x : Str) (t : Tok) (ty : String)
    (hn : ["enumerate", "zip", "dict_itemiterator", "dict_reverseitemiterator", "odict_iterator", "itertools.zip_longest", "itertools.pairwise"].contains ty = false)
    (hW : ∀ A : Around, A.handled = none → Walks P w A it [it] [it] x.cps.size (SignAt x) (fun i h => h.IsStrIter it ty x t i))
    (hself : ∀ (A : Around) (i : Nat) (s : Shared) (Q : Value → Shared → Prop) (E : Value → Shared → Prop), s.heap.IsStrIter it ty x t i → Q (.ref it) s → wpAny (model P w) A (pyIter (.ref it)) Q E s) :
    Turn P w K tg (Its x) [it] it (fun i h => h.IsStrIter it ty x t i) where
  mem := by simp
  obj := fun i h st b hb => by
    have e : b = it := by simpa using hb
    subst e
    obtain ⟨o, e, c, d⟩ := st
    exact ⟨o, e, fun v z => by rw [d] at z; cases z⟩
  keep := fun i h h' st k => let ⟨o, e, r⟩ := st; ⟨o, k it (by simp) o e, r⟩
  item := by
    intro X hP hw hK hc i pins s σ H E I hf st hg
    subst hP hw hK
    obtain ⟨f0, f1, f2, f3, f4, f5⟩ := hf it (by simp)
    refine (hW X.A (I.ok.hd hc)).item i s _ _ hg st fun v h' tk hv st' kk => ?_
    obtain ⟨c, u, hcu, rfl⟩ := hv
    have I1 : Inv X pins σ H { s with heap := h', toks := tk } := I.turned (fun b o hb e => kk b o (by simpa using hb) e) f0 f1 f3 f4 f5
    obtain ⟨o, e, c1, d1⟩ := id st'
    exact ⟨_, rfl, go_of (s := { s with heap := h', toks := tk }) e c1 d1 hn ⟨.str ⟨#[c]⟩, H, I1, ⟨u, rfl⟩, ⟨rfl, c, hcu, rfl⟩, st', fun b hb => (hf b hb).1⟩⟩
  done := by
    intro X hP hw hK hc i pins s σ H E I hf st hg
    subst hP hw hK
    obtain ⟨f0, f1, f2, f3, f4, f5⟩ := hf it (by simp)
    have hi : i = x.cps.size := hg
    subst hi
    exact (hW X.A (I.ok.hd hc)).done s _ _ st fun h' tk kk => ⟨rfl, I.turned (fun b o hb e => kk b o (by simpa using hb) e) f0 f1 f3 f4 f5⟩
  self := hself
def iStr (tl : TE) : TI := fun σ H R => tl σ H fun x H1 => ∃ y, x = .str y ∧ R (Its y) H1
theorem pi_str {X : Cx} {tg l : Expr} {tl : TE} (hl : PE X l tl) : PI X tg l (iStr tl) := by
  intro pins s σ H R I h
  refine thn (hl pins s σ H _ I h) fun v s1 ⟨x, H1, I1, r1, q1⟩ => ?_
  obtain ⟨y, e, q⟩ := q1
  subst e
  obtain ⟨t, rfl⟩ := r1
  have fp : ∀ b ∈ [s1.heap.objs.size], FpOk X pins H1 b := fun b hb => by
    have e : b = s1.heap.objs.size := by simpa using hb
    subst e
    exact I1.fpOk (Nat.le_refl _) (I1.hok.fresh (Nat.le_refl _))
  cases ha : y.cps.all (· < 128)
  · refine wpAny_pyIter_wide ha ?_
    exact ⟨s1.heap.objs.size, [s1.heap.objs.size], _, _, H1, rfl, I1.kept (t' := s1.toks) fun b o e => Heap.get?_push_of_some _ e,
      turn_str _ y t "str_iterator" (by decide) (fun A hA => Walks.strWide hA _ y t) (fun A i s Q E st q => wpAny_pyIter_striter_wide st q), ⟨_, Heap.get?_push_size _ rfl, rfl, rfl⟩, fp, q⟩
  · refine wpAny_pyIter_ascii ha ?_
    exact ⟨s1.heap.objs.size, [s1.heap.objs.size], _, _, H1, rfl, I1.kept (t' := s1.toks) fun b o e => Heap.get?_push_of_some _ e,
      turn_str _ y t "str_ascii_iterator" (by decide) (fun A hA => Walks.strAscii hA _ y t) (fun A i s Q E st q => wpAny_pyIter_striter_ascii st q), ⟨_, Heap.get?_push_size _ rfl, rfl, rfl⟩, fp, q⟩
theorem ji_str {X : Cx} {tg l : Expr} {tl : TE} (hl : JE X l tl) : JI X tg l (iStr tl) := .of (pi_str hl.to)
section
variable {K : PySem.W.Frag} {g : TG} {tt : TT} {te : TE} {D a : Addr} {σ : St} {H : Hp} {Q : Hp → Prop}
def bTurn (tt : TT) (te : TE) (D : Addr) (N : St → Hp → Prop) : St → Hp → Prop := fun σ2 H3 => tt σ2 H3 fun b H4 =>
  if b = true then te σ2 H4 fun v H5 => ∃ ys, H5 D = some (.lst ys) ∧ ys.length < sizeLine ∧ N σ2 (upd H5 D (.lst (ys ++ [v]))) else N σ2 H4
theorem blk_of {J : It} {n : Nat} (Pv : Nat → St → Hp → Prop) (h0 : Pv 0 σ (upd H D (.lst [])))
    (go : ∀ i σ' H', i < n → Pv i σ' H' → J.go i H' ∧ ∀ x H2, J.yld i H' x H2 → g x σ' H2 (bTurn tt te D (Pv (i + 1)))) (stop : ∀ σ' H', Pv n σ' H' → J.stop n H' ∧ Q H') : tBlk J g tt te D σ H Q := by
  refine ⟨fun i m σ' H' => m = n - i ∧ i ≤ n ∧ Pv i σ' H', ⟨n, by simp, Nat.zero_le _, h0⟩, ?_⟩
  rintro i m σ' H' ⟨rfl, hi, p⟩
  by_cases hlt : i < n
  · obtain ⟨h1, h2⟩ := go i σ' H' hlt p
    exact .inr ⟨h1, Pv (i + 1), fun σ2 H2 p2 => ⟨n - (i + 1), by omega, rfl, hlt, p2⟩, h2⟩
  · have e : i = n := by omega
    subst e
    exact .inl (stop σ' H' p)
theorem blk_range {lo : Int} {n : Nat} (Pv : Nat → St → Hp → Prop) (h0 : Pv 0 σ (upd H D (.lst [])))
    (hs : ∀ i σ' H', i < n → Pv i σ' H' → g (.int (lo + i)) σ' H' (bTurn tt te D (Pv (i + 1)))) (hd : ∀ σ' H', Pv n σ' H' → Q H') : tBlk (Itr lo n) g tt te D σ H Q :=
  blk_of (n := n) Pv h0 (fun i σ' H' hi p => ⟨hi, fun x H2 y => by
    obtain ⟨e, y⟩ := y
    subst e y
    exact hs i σ' H2 hi p⟩) fun σ' H' p => ⟨Nat.le_refl _, hd σ' H' p⟩
theorem blk_list {xs : List V} (Pv : Nat → St → Hp → Prop) (h0 : Pv 0 σ (upd H D (.lst []))) (hl : ∀ i σ' H', i ≤ xs.length → Pv i σ' H' → SqL K H' a xs)
    (hs : ∀ i x σ' H', xs[i]? = some x → Pv i σ' H' → g x σ' H' (bTurn tt te D (Pv (i + 1)))) (hd : ∀ σ' H', Pv xs.length σ' H' → Q H') : tBlk (Itl K a) g tt te D σ H Q :=
  blk_of (n := xs.length) Pv h0 (fun i σ' H' hi p => ⟨⟨xs, xs[i], hl i σ' H' (Nat.le_of_lt hi) p, by simp [hi]⟩, fun x H2 y => by
    obtain ⟨e, y⟩ := y
    subst e
    exact hs i x σ' _ (y xs (hl i σ' _ (Nat.le_of_lt hi) p)) p⟩) fun σ' H' p => ⟨⟨xs, hl _ σ' H' (Nat.le_refl _) p, Nat.le_refl _⟩, hd σ' H' p⟩
theorem blk_tup {xs : List V} (Pv : Nat → St → Hp → Prop) (h0 : Pv 0 σ (upd H D (.lst []))) (hl : ∀ i σ' H', i ≤ xs.length → Pv i σ' H' → SqT K H' a xs)
    (hs : ∀ i x σ' H', xs[i]? = some x → Pv i σ' H' → g x σ' H' (bTurn tt te D (Pv (i + 1)))) (hd : ∀ σ' H', Pv xs.length σ' H' → Q H') : tBlk (Itt K a) g tt te D σ H Q :=
  blk_of (n := xs.length) Pv h0 (fun i σ' H' hi p => ⟨⟨xs, xs[i], hl i σ' H' (Nat.le_of_lt hi) p, by simp [hi]⟩, fun x H2 y => by
    obtain ⟨e, y⟩ := y
    subst e
    exact hs i x σ' _ (y xs (hl i σ' _ (Nat.le_of_lt hi) p)) p⟩) fun σ' H' p => ⟨⟨xs, hl _ σ' H' (Nat.le_refl _) p, Nat.le_refl _⟩, hd σ' H' p⟩
theorem blk_str {x : Str} (Pv : Nat → St → Hp → Prop) (h0 : Pv 0 σ (upd H D (.lst [])))
    (hs : ∀ i c σ' H', x.cps[i]? = some c → Pv i σ' H' → g (.str ⟨#[c]⟩) σ' H' (bTurn tt te D (Pv (i + 1)))) (hd : ∀ σ' H', Pv x.cps.size σ' H' → Q H') : tBlk (Its x) g tt te D σ H Q :=
  blk_of (n := x.cps.size) Pv h0 (fun i σ' H' hi p => ⟨hi, fun v H2 y => by
    obtain ⟨e, c, hc, rfl⟩ := y
    subst e
    exact hs i c σ' _ hc p⟩) fun σ' H' p => ⟨rfl, hd σ' H' p⟩
end
section
variable {X : Cx}
theorem all_range_getD : ∀ (bs : List Bool), (List.range bs.length).all (fun i => bs.getD i false) = bs.all id := by
  intro bs
  induction bs with
  | nil => rfl
  | cons b bs ih =>
    rw [List.length_cons, List.range_succ_eq_map, List.all_cons, List.all_map, List.all_cons]
    have : ((fun i => (b :: bs).getD i false) ∘ Nat.succ) = fun i => bs.getD i false := by
      funext i
      simp [Function.comp]
    rw [this, ih]
    simp
theorem call_allB (hc : X.calm = true) : CallR X (.builtin "all") (fun xs H Q => ∃ (p : Addr) (bs : List Bool), xs = [.ref p] ∧ SqL X.K H p (bs.map V.bl) ∧ Q (.bl (bs.all id)) H) := by
  intro pins s σ H xs us Q I r h
  obtain ⟨p, bs, rfl, hq, q⟩ := h
  obtain ⟨u, rfl, rx⟩ := vals1 r
  cases rx
  obtain ⟨its, rv, pl, hz⟩ := I.list hq
  have hlt : p < s.heap.objs.size := by
    obtain ⟨o, n, e, _⟩ := pl
    exact Heap.lt_size e
  have hn : its.toArray.size = bs.length := by
    have := rv.length
    rw [List.length_map] at this
    simp only [List.size_toArray]
    omega
  have hh : X.A.in1.handled = none := I.ok.hd hc
  refine call_all_walk (wpAny_pyIter_list pl.isList ?_)
  refine ⟨s.heap.objs.size, [s.heap.objs.size, p], [s.heap.objs.size], its.toArray.size, fun i v => its.toArray[i]? = some v, _, fun i => bs.getD i false, rfl, Walks.list hh s.heap.objs.size p (Nat.ne_of_lt hlt) its.toArray,
    ⟨⟨_, Heap.get?_push_size _ rfl, rfl, rfl⟩, pl.isList.at fun o e => Heap.get?_push_of_some _ e⟩, ?_, fun h' tk hk => ?_⟩
  · intro i v s' Q' E' hP hQ
    have hi : its[i]? = some v := by simpa using hP
    have hb : ∃ b, bs[i]? = some b ∧ v = Value.bool b := by
      cases e : bs[i]? with
      | none =>
        exfalso
        have h1 : (bs.map V.bl)[i]? = none := by rw [List.getElem?_map, e]; rfl
        rw [Vals.none_of rv h1] at hi
        cases hi
      | some b =>
        have h1 : (bs.map V.bl)[i]? = some (V.bl b) := by rw [List.getElem?_map, e]; rfl
        obtain ⟨u, hu, ru⟩ := rv.get h1
        rw [hi] at hu
        cases hu
        exact ⟨b, rfl, ru⟩
    obtain ⟨b, e, rfl⟩ := hb
    refine wpAny_truthy_bool ?_
    have e2 : bs.getD i false = b := by rw [List.getD_eq_getElem?_getD, e]; rfl
    have hQ' : Q' (bs.getD i false) s' := hQ
    rw [e2] at hQ'
    exact hQ'
  · rw [hn, all_range_getD]
    refine ⟨.bl (bs.all id), H, ?_, rfl, q⟩
    exact I.kept (h' := h') (t' := tk) fun b o e => hk b o (by
      intro z
      have z' : b = s.heap.objs.size := by simpa using z
      exact absurd (Heap.lt_size e) (by rw [z']; exact Nat.lt_irrefl _)) (Heap.get?_push_of_some _ e)
theorem strsAre_of {ys : List Str} : ∀ {us : List Value}, Vals (ys.map V.str) us → StrsAre us ys := by
  induction ys with
  | nil =>
    intro us r
    rw [List.map_nil] at r
    cases r
    exact .nil
  | cons y ys ih =>
    intro us r
    rw [List.map_cons] at r
    cases r with
    | cons a b =>
      obtain ⟨t, rfl⟩ := a
      exact .cons _ _ (ih b)
def rJoin (K : PySem.W.Frag) : V → List V → Hp → VK → Prop := fun x xs H Q => ∃ (sep : Str) (p : Addr) (ys : List Str), x = .str sep ∧ xs = [.ref p] ∧ SqL K H p (ys.map V.str) ∧ (ys.map (·.length)).sum + ys.length * sep.length ≤ 16777216 ∧ Q (.str (Txt.join sep ys)) H
theorem mt_join : MtR X "str.join" (rJoin X.K) := by
  intro pins s σ H x xs v us Q I rx rv h
  obtain ⟨sep, p, ys, rfl, rfl, hq, hz, q⟩ := h
  obtain ⟨t, rfl⟩ := rx
  obtain ⟨u, rfl, ru⟩ := vals1 rv
  cases ru
  obtain ⟨its, r', pl, _⟩ := I.list hq
  exact join_list pl.isList (by simpa using strsAre_of r') hz fun t' k => ⟨.str _, H, I.tok k, ⟨t', rfl⟩, q⟩
def clsV : V → Value
  | .ty n => .type n
  | .ref a => .ref a
  | _ => .none
def isCls : V → Bool
  | .ty _ => true
  | .ref _ => true
  | _ => false
def rInst (K : PySem.W.Frag) : List V → Hp → VK → Prop := fun xs H Q => ∃ x c t b, xs = [x, c] ∧ isCls c = true ∧ TyOf K H x t ∧ PySem.W.kitOne K t (clsV c) = some b ∧ Q (.bl b) H
theorem call_isinst : CallR X (.builtin "isinstance") (rInst X.K) := by
  intro pins s σ H xs us Q I r h
  obtain ⟨x, c, t, b, rfl, hc, ty, e, q⟩ := h
  obtain ⟨u, w', rfl, ru, rw'⟩ := vals2 r
  have ew : w' = clsV c := by
    cases c with
    | ty n => exact rw'
    | ref a => exact rw'
    | _ => cases hc
  subst ew
  exact isinst_ok I ru ty e fun tk => ⟨.bl b, H, I.tok tk, rfl, q⟩
end
end L2
namespace L2
open PySem PySem.Spec PyProof.Rows
end L2
set_option Elab.async false
set_option linter.all false
set_option maxRecDepth 100000
set_option maxHeartbeats 4000000
namespace L2
open PySem PySem.Spec PyProof.Rows
section
variable {prog : Program} {w : World} {A : Around} {E : Value → Shared → Prop} {h : Heap} {g : Array GenState} {d : Drawn} {t : Nat} {os : OsState}
variable {nm q : Str} {C N fI : Addr} {bs bm bmB bmN : List Value} {hdct : Bool} {sn : List Str} {sub : List Value} {ab : Bool} {col : Option Bool} {dd : Option Addr} {k0 k1 k2 k3 k5 : Option Value} {B Bn newId nid initId inN : String} {rest : List Value} {oI : Obj}
end
end L2
namespace L2
open PySem PySem.W PyProof.Rows Builtin Builtin.ObjectAttr
structure ECls (K : Frag) (C : Addr) (bm : List Value) : Prop where
  ga : findIn K (.ref C) "__getattribute__" = some (some (.builtin "BaseException.__getattribute__"))
  gt : findIn K (.ref C) "__getattr__" = some none
  sa : findIn K (.ref C) "__setattr__" = some (some (.builtin "object.__setattr__"))
  hd : hasDictIn K C = true
  mr : ∃ cd, clsIn K C = some cd ∧ cd.mro = .ref C :: bm
  mb : mroIn K C (.type "BaseException") = some true
  mo : mroIn K C (.type "object") = some true
  cl : findIn K (.ref C) "__class__" = some (some (.builtin "object.__class__"))
section
variable {prog : Program} {w : World} {A : Around} {E : Value → Shared → Prop} {s : Shared} {K : Frag} {x C : Addr} {ox : Obj} {od : Option Obj} {bm : List Value} {name : Str} {v : Value}
end
end L2
namespace L2
open PySem PySem.W PyProof.Rows Builtin Builtin.ObjectAttr
section
variable {K : Frag} {x C : Addr} {ox odd : Obj} {bm : List Value}
end
end L2
set_option Elab.async false
set_option linter.all false
set_option maxRecDepth 100000
set_option maxHeartbeats 4000000
namespace L2
open PySem PySem.Spec PyProof.Rows
def excH (e C dx : Addr) (hd : Value) : HO := .ext fun h => ∃ fl, h.get? e = some { cls := .ref C, dict := some dx, data := .fields fl } ∧ fl[1]? = some hd
def lineV : List Value := [.type "ValueError", .type "Exception", .type "BaseException", .type "object"]
structure EMk (K : PySem.W.Frag) (C f : Addr) (bm : List Value) : Prop where
  obj : ∃ nm q N bs hdct sn sub ab col dd k0 k1 k2 k3 k5, K.lookup C = some (excClassObj nm q C N bs bm hdct sn sub ab col dd k0 k1 k2 k3 k5 "ValueError.__new__")
  tail : ∀ h : Heap, K.In h → OwnTail h lineV bm
  init : PySem.W.findIn K (.ref C) "__init__" = some (some (.ref f))
  fn : PySem.W.isFn K (.ref f) = true
  kp : PySem.W.keepIn K (.ref C) = true
section
variable {P : Program} {w : World} {H : Hp} {h h' : Heap} {e C dx : Addr}
end
section
variable {X : Cx} {pins : List (Addr × Obj)} {σ : St} {H : Hp} {s : Shared} {e C dx : Addr} {f : Str} {bm : List Value} {y v : V} {u : Value} {A : Around} {E : Value → Shared → Prop}
end
end L2
namespace L2
open PySem PySem.Spec PyProof.Rows
section
variable {X : Cx} {CX : CXT} {k : Nat} {C fI : Addr} {fd : FuncData} {ps : List Str} {sp : Sp} {E : XK} {x f : Str} {o e value : Expr} {es : List Expr} {p pos pos' : Pos} {ta tv : TE} {t : TA} {bm : List Value}
end
end L2
set_option Elab.async false
set_option linter.all false
set_option maxRecDepth 100000
set_option maxHeartbeats 4000000
namespace L2
open PySem PySem.Spec PyProof.Rows
def neL (xs ys : List V) : Bool := if xs.length = ys.length then !((List.range xs.length).all fun j => eqV (xs.getD j .non) (ys.getD j .non)) else true
mutual
inductive DV (K : PySem.W.Frag) (H : Hp) : V → PyData → Prop
  | non : DV K H .non .none
  | bl (b : Bool) : DV K H (.bl b) (.bool b)
  | int (i : Int) : DV K H (.int i) (.int i)
  | str (x : Str) : DV K H (.str x) (.str x)
  | lst {a : Addr} {xs : List V} {ds : List PyData} : SqL K H a xs → DVs K H xs ds → DV K H (.ref a) (.list ds)
  | tup {a : Addr} {xs : List V} {ds : List PyData} : SqT K H a xs → DVs K H xs ds → DV K H (.ref a) (.tuple ds)
inductive DVs (K : PySem.W.Frag) (H : Hp) : List V → List PyData → Prop
  | nil : DVs K H [] []
  | cons {x : V} {xs : List V} {d : PyData} {ds : List PyData} : DV K H x d → DVs K H xs ds → DVs K H (x :: xs) (d :: ds)
end
section
variable {X : Cx} {pins : List (Addr × Obj)} {σ : St} {H : Hp} {s : Shared}
mutual
theorem DV.reads (I : Inv X pins σ H s) : ∀ {x : V} {d : PyData}, DV X.K H x d → ∀ {u : Value}, RelV x u → ∃ as, Reads s.heap u d as
  | _, _, .non, u, r => by cases (show u = Value.none from r); exact ⟨_, .none⟩
  | _, _, .bl b, u, r => by cases (show u = Value.bool b from r); exact ⟨_, .bool b⟩
  | _, _, .int i, u, r => by obtain ⟨t, q⟩ := (show ∃ t, u = Value.int i t from r); subst q; exact ⟨_, .int i t⟩
  | _, _, .str x, u, r => by obtain ⟨t, q⟩ := (show ∃ t, u = Value.str x t from r); subst q; exact ⟨_, .str x t⟩
  | _, _, .lst (a := a) hq hs, u, r => by
    cases (show u = Value.ref a from r)
    obtain ⟨its, rv, ⟨o, n, e, hc, hd, hda⟩, hz⟩ := I.list hq
    obtain ⟨as, ra⟩ := DVs.reads I hs rv
    exact ⟨_, .list e hc hda (by simpa using ra)⟩
  | _, _, .tup (a := a) hq hs, u, r => by
    cases (show u = Value.ref a from r)
    obtain ⟨its, rv, ⟨o, e, hc, n, hda⟩, hz⟩ := I.tuple hq
    obtain ⟨as, ra⟩ := DVs.reads I hs rv
    exact ⟨_, .tuple e hc hda (by simpa using ra)⟩
theorem DVs.reads (I : Inv X pins σ H s) : ∀ {xs : List V} {ds : List PyData}, DVs X.K H xs ds → ∀ {us : List Value}, Vals xs us → ∃ as, ReadsAll s.heap us ds as
  | _, _, .nil, _, .nil => ⟨_, .nil⟩
  | _, _, .cons h hs, _, .cons r rs => by
    obtain ⟨as, a⟩ := DV.reads I h r
    obtain ⟨bs, b⟩ := DVs.reads I hs rs
    exact ⟨_, .cons a b⟩
end
end
end L2
namespace L2
open PySem PySem.Spec PyProof.Rows
end L2
set_option Elab.async false
set_option linter.all false
set_option maxRecDepth 100000
set_option maxHeartbeats 4000000
namespace L2
open PySem PySem.Spec PyProof.Rows
structure Fly (fs : List Addr) (ex : List Addr) (h h' : Heap) : Prop where
  keep : ∀ b o, b ∉ fs → b ∉ ex → h.get? b = some o → h'.get? b = some o
  slot : ∀ b o, b ∈ fs → b ∉ ex → h.get? b = some o → ∃ sl, h'.get? b = some { o with slots := sl }
def Stn (T : Addr) (fl : Value) (h : Heap) : Prop := ∃ ts, h.get? T = some { cls := .type "traceback", data := .fields ts } ∧ ts[3]? = some fl
section
variable {M : Model} {A : Around} {E : Value → Shared → Prop} {s : Shared} {base : Heap} {env : Env} {outer : List Env} {L e : Addr} {cl head : Value} {d : Option Addr} {vs : Array Value} {had : Bool} {Q : Unit → Shared → Prop}
end
structure Track (ex : List Addr) (n : Nat) (H H' : Hp) : Prop where
  ext : ∀ b ∈ ex, ∃ φ, H b = some (.ext φ)
  same : ∀ b o, b ∉ ex → H b = some o → H' b = some o
  no : ∀ b, b < n → H b = none → H' b = none
section
variable {P : Program} {w : World} {fs ex : List Addr} {H H' : Hp} {h h' : Heap}
theorem Track.out {n : Nat} (t : Track ex n H H') {b : Addr} {o : HO} (q : H b = some o) (hn : ∀ φ, o ≠ .ext φ) : b ∉ ex := fun z => by
  obtain ⟨φ, e⟩ := t.ext b z
  rw [q] at e
  cases e
  exact hn φ rfl
end
end L2
namespace L2
open PySem PySem.Spec PyProof.Rows
def stn (T : Addr) (fl : Value) : HO := .ext (Stn T fl)
section
variable {X : Cx} {pins : List (Addr × Obj)} {σ : St} {H H' : Hp} {s : Shared} {h' : Heap} {ex : List Addr}
theorem Fly.then {fs ex : List Addr} {h h1 h2 : Heap} {T : Addr} (F : Fly fs ex h h1) (G : Fly fs [T] h1 h2) (hT : h.objs.size ≤ T) : Fly fs ex h h2 where
  keep b o n1 n2 q := G.keep b o n1 (by simp; exact Nat.ne_of_lt (Nat.lt_of_lt_of_le (Heap.lt_size q) hT)) (F.keep b o n1 n2 q)
  slot b o n1 n2 q := by
    obtain ⟨sl, r⟩ := F.slot b o n1 n2 q
    obtain ⟨sl', r'⟩ := G.slot b _ n1 (by simp; exact Nat.ne_of_lt (Nat.lt_of_lt_of_le (Heap.lt_size q) hT)) r
    exact ⟨sl', r'⟩
end
section
variable {P : Program} {w : World} {K : PySem.W.Frag} {mg : Str → Option Value} {base : Heap} {N : List Str} {qual : Str} {scope : Scope} {f : Addr} {cd : Value} {A : Around} {outer : List Env} {s₀ : Shared} {H₀ : Hp} {E : XK}
end
end L2
set_option Elab.async false
set_option linter.all false
set_option maxRecDepth 100000
set_option maxHeartbeats 4000000
namespace L2
open PySem PySem.Spec PyProof.Rows
section
variable {M : Model} {A : Around} {E : Value → Shared → Prop} {s : Shared} {env : Env} {C : Addr}
end
section
variable {X : Cx} {E : XK} {e : Expr} {te : TE} {pos : Pos}
end
end L2
set_option Elab.async false
set_option linter.all false
set_option maxRecDepth 100000
set_option maxHeartbeats 4000000
namespace L2
open PySem PySem.Spec PyProof.Rows
section
variable {M : Model} {A : Around} {E : Value → Shared → Prop}
end
end L2
set_option Elab.async false
set_option linter.all false
set_option maxRecDepth 100000
set_option maxHeartbeats 4000000
namespace L2
open PySem PySem.Spec PyProof.Rows
def PassesS (CX : CXT) (X : Cx) (E : St → XK) : Prop := ∀ (pins : List (Addr × Obj)) (σ : St) (H : Hp) (s : Shared) (e : Value) (s' : Shared), Inv X pins σ H s → CX X.stack H s (E σ) e s' → X.xe e s'
theorem Passes.s {CX : CXT} {X : Cx} {E : XK} (h : Passes CX X E) : PassesS CX X fun _ => E := h
section
variable {X : Cx} {CX : CXT} {k : Nat} {f C : Addr} {fd : FuncData} {ps : List Str} {sp : Sp} {dvs : List V} {ds : List Value} {E : St → XK} {x m : Str} {p pos apos : Pos} {e o : Expr} {es : List Expr} {ta : TE} {t : TA}
end
end L2
set_option Elab.async false
set_option linter.all false
set_option maxRecDepth 100000
set_option maxHeartbeats 4000000
namespace L2
open PySem PySem.Spec PyProof.Rows
section
variable {X : Cx}
def CDivB (i j : Int) : Prop := 0 < j ∧ j.natAbs < 2 ^ 200
theorem op_fdivB : OpR X (binaryOp .FloorDiv) (rI CDivB fun i j => .int (i / j)) := opI fun i j _ _ _ _ _ hc q => by
  have h1 : (0 : Int) < j := hc.1
  have h3 : j.natAbs.log2 < 200 := (Nat.log2_lt (by omega)).mpr hc.2
  exact floordiv_int (by omega) (by rw [Int.fdiv_eq_ediv_of_nonneg i (by omega)]; exact q) (.inl (PyProof.noPylong_of_log2 (Nat.lt_trans h3 (by decide))))
end
section
variable {X : Cx} {tg : Expr}
end
section
variable {X : Cx} {st : Stmt} {rest : List Stmt} {t u : TS}
def tMid (t u : TS) : TS := fun D σ H => ∃ W : St → Hp → Prop, t { D with nx := W } σ H ∧ ∀ σ' H', W σ' H' → u D σ' H'
theorem pss_mid (h1 : PS X st t) (h2 : PSs X rest u) : PSs X (st :: rest) (tMid t u) := by
  intro pins s σ H D I ⟨W, h, k⟩
  refine wpAny_execs_cons (thn (h1 pins s σ H { D with nx := W } I h) fun f s1 q => ?_)
  cases f with
  | next =>
    obtain ⟨σ', H', I', q⟩ := q
    exact h2 pins s1 σ' H' D I' (k σ' H' q)
  | ret v => exact q
  | brk => exact q
  | cont => exact q
theorem jss_mid (h1 : JS X st t) (h2 : JSs X rest u) : JSs X (st :: rest) (tMid t u) := .of (pss_mid h1.to h2.to)
end
end L2
set_option Elab.async false
set_option linter.all false
set_option maxRecDepth 100000
set_option maxHeartbeats 4000000
namespace PySem
section
variable {prog : Program} {w : World} {A : Around} {E : Value → Shared → Prop} {s : Shared}
def rrObj (x n c : Int) : Obj := { cls := .type "range_iterator", data := .fields #[rawInt x, rawInt n, rawInt c] }
theorem rr_size (n : Nat) : Builtin.Range.rangeSize 0 n 1 = n := by
  unfold Builtin.Range.rangeSize
  rw [if_pos (by decide)]
  split <;> omega
theorem call_range_rev {r : Addr} {a b c : Int} {t u v : Tok} {Q : Value → Shared → Prop} (hr : IsRange s.heap r a b c t u v)
    (hs : (Builtin.Range.rangeFitsLong a && Builtin.Range.rangeFitsLong b && Builtin.Range.rangeFitsLong c && Builtin.Range.rangeFitsLong (-c) && Builtin.Range.rangeFitsLong (a - c) && Builtin.Range.rangeFitsLong (Builtin.Range.rangeSize a b c)) = true)
    (h : Q (.ref s.heap.objs.size) { s with heap := s.heap.push (rrObj (a + (Builtin.Range.rangeSize a b c - 1) * c) (Builtin.Range.rangeSize a b c) (-c)) }) : wpAny (model prog w) A (call (.builtin "range.__reversed__") [.ref r]) Q E s := by
  have ty : s.TypeIs (.ref r) "range" := ⟨_, hr, rfl⟩
  refine wpAny_call_entry F.slot_range_reversed ty F.entry_range_reversed ?_ (F.args_range_reversed_1 _)
  unfold Builtin.«range.__reversed__»
  refine wpAny_bind (wpAny_of_eq (a := Value.ref r) rfl ?_)
  refine wpAny_bind ?_
  unfold Builtin.Range.rangeFields
  refine wpAny_bind (wpAny_field hr rfl (x := .int a t) rfl ?_)
  refine wpAny_bind (m := asInt? (.int a t)) (wpAny_pure ?_)
  refine wpAny_bind (wpAny_field hr rfl (x := .int b u) rfl ?_)
  refine wpAny_bind (m := asInt? (.int b u)) (wpAny_pure ?_)
  refine wpAny_bind (wpAny_field hr rfl (x := .int c v) rfl ?_)
  refine wpAny_bind (m := asInt? (.int c v)) (wpAny_pure ?_)
  refine wpAny_pure ?_
  dsimp only
  rw [hs]
  simp only [Bool.not_true, Bool.false_eq_true, if_false, if_true]
  first
  | refine wpAny_bind (wpAny_newObj_type (wpAny_pure ⟨_, rfl, h⟩))
  | refine wpAny_bind (wpAny_pure (wpAny_bind (wpAny_newObj_type (wpAny_pure ⟨_, rfl, h⟩))))
theorem call_range_reversed {r : Addr} {n : Nat} {t u v : Tok} {Q : Value → Shared → Prop} (hr : IsRange s.heap r 0 n 1 t u v) (hn : n < 1048576)
    (h : Q (.ref s.heap.objs.size) { s with heap := s.heap.push (rrObj ((n : Int) - 1) n (-1)) }) : wpAny (model prog w) A (call (.builtin "range.__reversed__") [.ref r]) Q E s := by
  have f : ∀ x : Int, -2000000 ≤ x → x ≤ 2000000 → Builtin.Range.rangeFitsLong x = true := fun x p q => by
    unfold Builtin.Range.rangeFitsLong
    simp
    omega
  have e := rr_size n
  have hs : (Builtin.Range.rangeFitsLong 0 && Builtin.Range.rangeFitsLong (n : Int) && Builtin.Range.rangeFitsLong 1 && Builtin.Range.rangeFitsLong (-1) && Builtin.Range.rangeFitsLong (0 - 1) && Builtin.Range.rangeFitsLong (Builtin.Range.rangeSize 0 n 1)) = true := by
    rw [e, f 0 (by omega) (by omega), f n (by omega) (by omega), f 1 (by omega) (by omega), f (-1) (by omega) (by omega), f (0 - 1) (by omega) (by omega)]
    rfl
  refine call_range_rev hr hs ?_
  have e2 : (0 : Int) + (Builtin.Range.rangeSize 0 n 1 - 1) * 1 = (n : Int) - 1 := by rw [e]; omega
  rw [e2, e]
  exact h
end
end PySem
namespace PySem
section
variable {prog : Program} {w : World} {A : Around} {E : Value → Shared → Prop} {s : Shared}
theorem code_reversed_newR {r : Addr} {n : Nat} {t u v : Tok} {Q₁ : Value → Shared → Prop} (hr : IsRange s.heap r 0 n 1 t u v) (hn : n < 1048576)
    (h : Q₁ (.ref s.heap.objs.size) { s with heap := s.heap.push (rrObj ((n : Int) - 1) n (-1)) }) :
    codeAny (model prog w) A (.call (.builtin "reversed.__new__") ⟨[.type "reversed", .ref r], []⟩) (wants Q₁ E) s := by
  have ty : s.TypeIs (.ref r) "range" := ⟨_, hr, rfl⟩
  have nn : ¬ ((Value.builtin "range.__reversed__" == Value.none) = true) := Bool.false_ne_true
  refine codeAny_of_tree (show wpAny _ A.in1 (checkBuiltinCall "reversed.__new__" ⟨[.type "reversed", .ref r], []⟩ >>= fun _ => again (.builtin "reversed.__new__" ⟨[.type "reversed", .ref r], []⟩)) _ _ s from
    wpAny_bind (wpAny_of_eq (F.newCall_reversed_1 (.ref r)) (wpAny_pure ⟨plainId_quiet F.plain_reversed_new _, codeAny_builtin F.entry_reversed_new ?_⟩)))
  rw [Around.under_plainId F.plain_reversed_new _]; unfold Builtin.«reversed.__new__»
  refine wpAny_bind (wpAny_of_eq (newClass_reversed (.ref r)) ?_); dsimp only
  refine wpAny_bind (wpAny_of_eq (a := ()) (by kernel_rfl) (wpAny_bind (wpAny_of_eq (a := ()) (by kernel_rfl) ?_))); try dsimp only
  refine wpAny_bind (wpAny_specialOf ty F.slot_range_reversed.lookup ?_); dsimp only
  refine wpAny_bind (wpAny_of_eq (F.slot_range_reversed.bind _) ?_); dsimp only
  rw [if_neg nn]
  refine wpAny_bind (wpAny_rule (wpAny_bind (m := runValue (.call (.builtin "range.__reversed__") ⟨[.ref r], []⟩)) (show wpAny _ _ (call (.builtin "range.__reversed__") [.ref r]) _ _ _ from call_range_reversed hr hn ?_)))
  first | exact wpAny_pure h | exact wpAny_bind (wpAny_pure (wpAny_pure h))
theorem sub_ri_reversed : isSubtype (.type "range_iterator") (.type "reversed") = pure false := by rw [isSubtype_type]; kernel_rfl
theorem call_reversed_range {r : Addr} {n : Nat} {t u v : Tok} {Q : Value → Shared → Prop} (hr : IsRange s.heap r 0 n 1 t u v) (hn : n < 1048576)
    (h : Q (.ref s.heap.objs.size) { s with heap := s.heap.push (rrObj ((n : Int) - 1) n (-1)) }) : wpAny (model prog w) A (call (.type "reversed") [.ref r]) Q E s := by
  refine callType_other (U := "range_iterator") (Q₁ := fun obj s₁ => obj = .ref s.heap.objs.size ∧ s₁ = { s with heap := s.heap.push (rrObj ((n : Int) - 1) n (-1)) }) (by decide +kernel) F.create_reversed ⟨_, _, F.mro_reversed⟩ F.made_reversed sub_ri_reversed (F.typeCall_reversed_1 _) (code_reversed_newR hr hn ⟨rfl, rfl⟩) ?_
  rintro obj s₁ ⟨rfl, rfl⟩
  exact ⟨⟨_, Heap.get?_push_size _ rfl, rfl⟩, h⟩
theorem call_ri_hint {I : Addr} {x left c : Int} {Q : Value → Shared → Prop} (hit : IsRangeIter s.heap I x left c) (h : Q (.int left s.toks) { s with toks := s.toks + 1 }) :
    wpAny (model prog w) A (call (.builtin "range_iterator.__length_hint__") [.ref I]) Q E s := by
  have hT : s.TypeIs (.ref I) "range_iterator" := ⟨_, hit, rfl⟩
  refine wpAny_call_entry F.slot_range_iterator_length_hint hT F.entry_range_iterator_length_hint ?_ (F.args_range_iterator_length_hint_1 _)
  unfold Builtin.«range_iterator.__length_hint__»
  refine wpAny_bind (wpAny_of_eq (a := Value.ref I) rfl ?_)
  refine wpAny_bind (wpAny_field hit rfl (x := rawInt left) rfl ?_)
  show wpAny _ _ (do ret (← mkInt left)) _ _ _
  exact wpAny_ret_mkInt h
structure SelfIt (P : Program) (w : World) (T : String) (I : Addr) (fp : List Addr) (n : Nat) (V : Nat → Value → Prop) (St : Nat → Heap → Prop) : Prop where
  ty : ∀ z : Shared, St 0 z.heap → z.TypeIs (.ref I) T
  nl : (Value.type T == Value.type "list") = false
  nt : (Value.type T == Value.type "tuple") = false
  walk : ∀ B : Around, B.handled = none → Walks P w B I fp [I] n V St
  hint : ∀ (B : Around) (F : Value → Shared → Prop) (z : Shared) (R : Bool → Shared → Prop), St 0 z.heap → (∀ k, R false { z with toks := k }) → wpAny (model P w) B (Builtin.List.listLengthHint (.ref I)) R F z
theorem SelfIt.list {P : Program} {T : String} {I : Addr} {fp : List Addr} {n : Nat} {V : Nat → Value → Prop} {St : Nat → Heap → Prop} (J : SelfIt P w T I fp n V St) {B : Around} {F' : Value → Shared → Prop} {z : Shared} {R : Value → Shared → Prop}
    (hB : B.handled = none) (st : St 0 z.heap) (mem : I ∈ fp) (old : ∀ b ∈ fp, b < z.heap.objs.size) (hn : n ≤ 1048576)
    (k : ∀ g tk xs c, (∀ b o, b ≠ I → z.heap.get? b = some o → g.get? b = some o) → g.get? z.heap.objs.size = some (⟨.type "list", none, .seq xs c, #[]⟩ : Obj) → ItemsOf V xs n → R (.ref z.heap.objs.size) { z with heap := g, toks := tk }) :
    wpAny (model P w) B (call (.type "list") [.ref I]) R F' z := by
  have nI : ∀ b ∈ fp, z.heap.objs.size ≠ b := fun b hb => Nat.ne_of_gt (old b hb)
  have sI : Builtin.List.listSameRef (.ref z.heap.objs.size) (.ref I) = false := by unfold Builtin.List.listSameRef; simp [nI I mem]
  refine callType_codes (Q₁ := fun ob z1 => z1 = { z with heap := z.heap.push { cls := .type "list", data := .seq #[] } } ∧ ob = .ref z.heap.objs.size) F.called_list (F.typeCall_list_1 _) F.entry_list_init (code_list_new _ ⟨rfl, rfl⟩) ?_
  rintro ob z1 ⟨rfl, rfl⟩
  have a0 := Heap.get?_push_size z.heap (o := ({ cls := .type "list", data := .seq #[] } : Obj)) rfl
  refine ⟨⟨_, a0, rfl⟩, F.args_list_init_2 _ _, ?_⟩
  show wpAny _ _ (Builtin.List.listItems (.ref _) >>= fun ys => Builtin.List.listUpdate (.ref _) (fun _ => #[]) >>= fun _ => letGo ys.toList.reverse >>= fun _ => Builtin.List.listExtendWith (.ref _) (.ref I) .none) _ _ _
  refine wpAny_bind (show wpAny _ _ (Builtin.List.listItems (.ref _)) _ _ _ from ?_)
  unfold Builtin.List.listItems
  refine wpAny_bind (wpAny_seqItems a0 rfl (wpAny_pure (wpAny_bind ?_)))
  refine wpAny_updateSeq a0 rfl (wpAny_bind (wpAny_letGo ?_))
  have a1 := Heap.get?_update_self (Obj.mapSeq (fun _ => (#[] : Array Value))) a0 rfl
  have keep1 : ∀ b o, z.heap.get? b = some o → ((z.heap.push { cls := .type "list", data := .seq #[] }).update z.heap.objs.size (Obj.mapSeq (fun _ => (#[] : Array Value)))).get? b = some o := fun b o e =>
    (Heap.get?_update_other _ _ (Nat.ne_of_gt (Heap.lt_size e))).trans (Heap.get?_push_of_some _ e)
  generalize hg1 : (z.heap.push { cls := .type "list", data := .seq #[] }).update z.heap.objs.size (Obj.mapSeq (fun _ => (#[] : Array Value))) = g1 at a1 keep1
  have st1 : St 0 g1 := (J.walk B hB).frame 0 _ _ st fun b _ o e => keep1 b o e
  unfold Builtin.List.listExtendWith
  refine wpAny_bind (wpAny_typeOf (J.ty { z with heap := g1 } st1) ?_)
  simp only [sI, J.nl, J.nt, Bool.or_false, Bool.false_eq_true, if_false]
  refine wpAny_bind ((J.walk B.in1.in1 hB).self 0 { z with heap := g1 } _ _ st1 ?_)
  refine wpAny_bind (wpAny_holding (J.hint B.in1.in1 _ { z with heap := g1 } _ st1 fun tk => ?_))
  have run : ∀ (g : Heap) (c tk : Nat), St 0 g → (∀ b o, z.heap.get? b = some o → g.get? b = some o) → g.get? z.heap.objs.size = some { cls := .type "list", data := .seq #[] c } →
      codeAny (model P w) B.in1 (.builtin "list.extend.loop" ⟨[.ref z.heap.objs.size, .ref I, .none], []⟩) (wants (fun r z2 => r = .none ∧ R (.ref z.heap.objs.size) z2) F') { z with heap := g, toks := tk } := fun g c tk sg kg ag =>
    codeAny_extend_loopS (J.walk B.in1.in1 hB).toS (by rw [sizeLine_eq]; omega) _ (fun q => nI _ q rfl) .none n 0 _ #[] c rfl (Nat.zero_le _) sg ag (ItemsOf.nil _) fun z3 xs c3 mv a3 it => by
      rw [Moved.eq_with mv]
      refine ⟨rfl, k z3.heap z3.toks xs c3 (fun b o hb e => mv.heap b o (fun q => ?_) (kg b o e)) a3 it⟩
      rcases List.mem_cons.mp q with q | q
      · exact absurd q (Nat.ne_of_lt (Heap.lt_size e))
      · exact hb (List.mem_singleton.mp q)
  refine wpAny_ite_split (fun _ => ?_) (fun _ => wpAny_pure ⟨plainId_quiet F.plain_extend_loop _, run g1 _ tk st1 keep1 a1⟩)
  refine wpAny_bind (wpAny_rule (wpAny_bind (show wpAny _ _ (updateSeq z.heap.objs.size (·.push .none) >>= fun _ => updateSeq z.heap.objs.size (·.pop)) _ _ _ from wpAny_bind (wpAny_updateSeq a1 rfl ?_))))
  have a2 := Heap.get?_update_self (Obj.mapSeq (·.push Value.none)) a1 rfl
  refine wpAny_updateSeq (hz := by seq_fits) a2 rfl ?_
  have keep3 : ∀ b o, b ≠ z.heap.objs.size → g1.get? b = some o → ((g1.update z.heap.objs.size (Obj.mapSeq (·.push Value.none))).update z.heap.objs.size (Obj.mapSeq (·.pop))).get? b = some o := fun b o hb e =>
    (Heap.get?_update_other _ _ (Ne.symm hb)).trans ((Heap.get?_update_other _ _ (Ne.symm hb)).trans e)
  exact wpAny_pure ⟨plainId_quiet F.plain_extend_loop _, run _ _ tk ((J.walk B hB).frame 0 _ _ st1 fun b hb o e => keep3 b o (fun q => nI b hb q.symm) e) (fun b o e => keep3 b o (Nat.ne_of_lt (Heap.lt_size e)) (keep1 b o e)) (Heap.get?_update_self (Obj.mapSeq (·.pop)) a2 rfl)⟩
theorem selfRange {P : Program} {I : Addr} {x c : Int} {n : Nat} (hn : n ≤ 1048576) : SelfIt P w "range_iterator" I [I] n (fun i v => ∃ t, v = .int (x + i * c) t) (fun i h => IsRangeIter h I (x + (i : Nat) * c) ((n : Int) - (i : Nat)) c) where
  ty := fun _ st => ⟨_, st, rfl⟩
  nl := by decide
  nt := by decide
  walk := fun _ hB => Walks.range hB I x c n
  hint := fun B G z R st k => by
    have st' : IsRangeIter z.heap I x n c := by
      have e1 : x + ((0 : Nat) : Int) * c = x := by simp
      have e2 : (n : Int) - ((0 : Nat) : Int) = n := by simp
      rw [← e1, ← e2]
      exact st
    have ty : z.TypeIs (.ref I) "range_iterator" := ⟨_, st', rfl⟩
    have few : Builtin.List.listTooLong ((n : Int).toNat) = false := by unfold Builtin.List.listTooLong; rw [Int.toNat_natCast]; exact decide_eq_false (by rw [sizeLine_eq]; omega)
    unfold Builtin.List.listLengthHint
    refine wpAny_bind (wpAny_specialOf ty F.nolen_ra ?_)
    refine (show wpAny _ B (specialOf (.ref I) (Str.ofString "__length_hint__") >>= _) _ _ _ from wpAny_bind (wpAny_specialOf ty F.hint_ra ?_))
    (generalize hq : ("range_iterator.__length_hint__" : String) = q0; (fail_if_success (clear hq q0)); wp_delta; rw [show splitId q0 = some ("range_iterator", "__length_hint__") from by subst hq; decide +kernel]; subst hq)
    refine wpAny_bind (wpAny_isInstance (b := true) ty (by rw [isSubtype_type]; kernel_rfl) ?_)
    refine (show wpAny _ B (call (.builtin "range_iterator.__length_hint__") [.ref I] >>= _) _ _ _ from wpAny_bind (call_ri_hint st' (wpAny_bind (m := asInt? (.int (n : Int) _)) (wpAny_pure ?_))))
    dsimp only
    rw [if_neg (by rw [few]; decide)]
    exact wpAny_pure (k _)
end
end PySem
namespace L2
open PySem PySem.Spec PyProof.Rows
def downN (n : Nat) : List Nat := (List.range n).reverse
theorem vals_down {n : Nat} {acc : Array Value} (h : ItemsOf (fun i v => ∃ t, v = .int ((n : Int) - 1 + i * (-1)) t) acc n) : Vals ((downN n).map fun i => V.int (i : Nat)) acc.toList := by
  obtain ⟨hz, hv⟩ := h
  have key : ∀ (xs : List V) (us : List Value), xs.length = us.length → (∀ (i : Nat) (x : V) (u : Value), xs[i]? = some x → us[i]? = some u → RelV x u) → Vals xs us := by
    intro xs
    induction xs with
    | nil => intro us hl _; cases us with | nil => exact .nil | cons _ _ => cases hl
    | cons x xs ih =>
      intro us hl hp
      cases us with
      | nil => cases hl
      | cons u us => exact .cons (hp 0 x u rfl rfl) (ih us (by simpa using hl) fun i y w h1 h2 => hp (i + 1) y w (by simpa using h1) (by simpa using h2))
  refine key _ _ (by simp [downN, hz]) fun i x u h1 h2 => ?_
  have h2' : acc[i]? = some u := by simpa using h2
  obtain ⟨t, rfl⟩ := hv i u h2'
  have hi : i < n := by
    have := (Array.getElem?_eq_some_iff.mp h2').1
    omega
  rw [List.getElem?_map, downN, List.getElem?_reverse (by simpa using hi), List.length_range, List.getElem?_range (by omega)] at h1
  simp at h1
  subst h1
  refine ⟨t, ?_⟩
  congr 1
  omega
section
variable {X : Cx} {e : Expr} {te : TE} {p1 p2 p3 pos1 pos2 pos3 : Pos}
theorem spl1 {M : Model} {A : Around} {E : Value → Shared → Prop} {s : Shared} {env : Env} {e : Expr} {pos : Pos} {R : List Value → Shared → Prop} (hs : starEach [e] env = [(false, eval e env)]) (h : wpAny M A (eval e env) (fun v s1 => R [v] s1) E s) :
    wpAny M A (spliced (backTo pos (starEach [e] env))) R E s := by
  rw [hs]
  show wpAny _ _ (spliced ((false, eval e env) :: backTo pos [])) _ _ s
  exact Calls.spliced_cons (thn h fun u s1 h1 => Calls.spliced_nil h1)
def tLrr (te : TE) : TE := fun σ H Q => te σ H fun x H1 => ∃ n : Nat, x = .int n ∧ n ≤ 1000 ∧ ∀ l, H1 l = none → Q (.ref l) (upd H1 l (.lst ((downN n).map fun i => V.int (i : Nat))))
theorem pe_lrr (hc : X.calm = true) (g1 : Gl X "list") (m1 : X.mg "list" = none) (g2 : Gl X "reversed") (m2 : X.mg "reversed" = none) (g3 : Gl X "range") (m3 : X.mg "range" = none) (ha : PE X e te)
    (hs : starEach [e] X.env = [(false, eval e X.env)] := by rfl)
    (hs2 : starEach [.Call (.Name "range" p3) [e] [] pos3] X.env = [(false, eval (.Call (.Name "range" p3) [e] [] pos3) X.env)] := by rfl)
    (hs3 : starEach [.Call (.Name "reversed" p2) [.Call (.Name "range" p3) [e] [] pos3] [] pos2] X.env = [(false, eval (.Call (.Name "reversed" p2) [.Call (.Name "range" p3) [e] [] pos3] [] pos2) X.env)] := by rfl) :
    PE X (.Call (.Name "list" p1) [.Call (.Name "reversed" p2) [.Call (.Name "range" p3) [e] [] pos3] [] pos2] [] pos1) (tLrr te) := by
  intro pins s σ H Q I h
  refine Call_ (ld_blt I g1 m1 boot_list (PyProof.Rows.callWith_type1 (spl1 hs3 ?_) (by rw [hs3]; rfl) rfl))
  refine Call_ (ld_blt I g2 m2 boot_reversed (PyProof.Rows.callWith_type1 (spl1 hs2 ?_) (by rw [hs2]; rfl) rfl))
  refine Call_ (ld_blt I g3 m3 boot_range (PyProof.Rows.callWith_type1 (spl1 hs (thn (ha pins s σ H _ I h) fun u s1 ⟨x, H1, I1, r1, q1⟩ => ?_)) (by rw [hs]; rfl) rfl))
  obtain ⟨n, rfl, hn, q⟩ := q1
  obtain ⟨t, rfl⟩ := r1
  refine call_range_1 ?_
  refine call_reversed_range (IsRange.new ..) (by omega) ?_
  refine (selfRange (x := (n : Int) - 1) (c := -1) (n := n) (by omega)).list (I1.ok.hd hc) (by
    have e1 : (n : Int) - 1 + ((0 : Nat) : Int) * (-1) = (n : Int) - 1 := by simp
    have e2 : (n : Int) - ((0 : Nat) : Int) = n := by simp
    rw [e1, e2]
    exact Heap.get?_push_size _ rfl) (by simp) (fun b hb => by rw [List.mem_singleton.mp hb, Heap.size_push (_ : Heap) (rrObj _ _ _)]; exact Nat.lt_succ_self _) (by omega) fun h' tk acc' c' kp e hi => ?_
  have kk : ∀ b o, s1.heap.get? b = some o → h'.get? b = some o := fun b o eb => by
    refine kp b o (Nat.ne_of_lt ?_) (Heap.get?_push_of_some _ (Heap.get?_push_of_some _ eb))
    rw [Heap.size_push]
    exact Nat.lt_succ_of_lt (Heap.lt_size eb)
  have s1z : s1.heap.objs.size ≤ ((s1.heap.push ({ cls := .type "range", data := .fields #[.int 0 s1.toks, .int n t, .int 1 (s1.toks + 1)] } : Obj)).push (rrObj ((n : Int) - 1) n (-1))).objs.size := by
    rw [Heap.size_push, Heap.size_push]
    omega
  exact ⟨.ref _, _, I1.laid (t' := tk) (o := .lst ((downN n).map fun i => V.int (i : Nat))) kk s1z ⟨by simp only [List.length_map, downN, List.length_reverse, List.length_range]; exact Nat.le_of_lt (small1000 hn), acc'.toList, c', vals_down hi, by simpa using e⟩, rfl, q _ (I1.hok.fresh s1z)⟩
theorem je_lrr (hc : X.calm = true) (g1 : Gl X "list") (m1 : X.mg "list" = none) (g2 : Gl X "reversed") (m2 : X.mg "reversed" = none) (g3 : Gl X "range") (m3 : X.mg "range" = none) (ha : JE X e te) (hs : starEach [e] X.env = [(false, eval e X.env)] := by rfl) (hs2 : starEach [.Call (.Name "range" p3) [e] [] pos3] X.env = [(false, eval (.Call (.Name "range" p3) [e] [] pos3) X.env)] := by rfl) (hs3 : starEach [.Call (.Name "reversed" p2) [.Call (.Name "range" p3) [e] [] pos3] [] pos2] X.env = [(false, eval (.Call (.Name "reversed" p2) [.Call (.Name "range" p3) [e] [] pos3] [] pos2) X.env)] := by rfl) : JE X (.Call (.Name "list" p1) [.Call (.Name "reversed" p2) [.Call (.Name "range" p3) [e] [] pos3] [] pos2] [] pos1) (tLrr te) := .of (pe_lrr hc g1 m1 g2 m2 g3 m3 ha.to hs hs2 hs3)
end
end L2
set_option Elab.async false
set_option linter.all false
set_option maxRecDepth 100000
set_option maxHeartbeats 4000000
namespace PySem
namespace F
end F
end PySem
namespace L2
open PySem PySem.Spec PyProof.Rows
theorem paired_of : ∀ (xs : List V) (us : List Value), xs.length = us.length → (∀ (i : Nat) (x : V) (u : Value), xs[i]? = some x → us[i]? = some u → RelV x u) → Vals xs us := by
  intro xs
  induction xs with
  | nil => intro us hl _; cases us with | nil => exact .nil | cons _ _ => cases hl
  | cons x xs ih =>
    intro us hl hp
    cases us with
    | nil => cases hl
    | cons u us => exact .cons (hp 0 x u rfl rfl) (ih us (by simpa using hl) fun i y w h1 h2 => hp (i + 1) y w (by simpa using h1) (by simpa using h2))
section
variable {X : Cx} {e : Expr} {te : TE} {p1 p2 pos1 pos2 : Pos}
end
end L2
set_option Elab.async false
set_option linter.all false
set_option maxRecDepth 100000
set_option maxHeartbeats 4000000
namespace L2
open PySem PySem.Spec PyProof.Rows
section
variable {X : Cx} {pins : List (Addr × Obj)} {σ : St} {H : Hp} {s : Shared} {h' : Heap}
theorem Inv.turnLaid {L : List Addr} {T : Addr} {o : HO} {t' : Nat} (I : Inv X pins σ H s) (k : ∀ b u, b ∉ L → s.heap.get? b = some u → h'.get? b = some u) (hf : ∀ b ∈ L, FpOk X pins H b) (hp : s.heap.objs.size ≤ T)
    (new : ObjOk X.prog X.w (upd H T o) h' T o) : Inv X pins σ (upd H T o) { s with heap := h', toks := t' } := by
  have hn : H T = none := I.hok.fresh hp
  have up : ∀ b u, H b = some u → upd H T o b = some u := fun b u e => by rw [upd_ne (ne_of_none e hn)]; exact e
  have nL : ∀ b u, H b = some u → b ∉ L := fun b u e z => by rw [(hf b z).1] at e; cases e
  refine I.step (g' := s.gens) (d' := s.drawn) (ch := L) (fun b hb => ?_) (fun b o _ _ hc e _ => k b o hc e) (fun b o _ _ hc e _ => ⟨o.slots, k b o hc e⟩) (fun b ob hc e n => ?_)
    (fun b o hc e => ⟨o, k b o hc e⟩) (fun b xs e => up b _ e) (fun b o u e => up b _ e) (fun b ps e => ⟨#[], by rw [up b _ e]; simp⟩) (fun m hm => ?_) (fun b u e => ?_) I.bare
  · obtain ⟨f0, f1, f2, f3, f4, f5⟩ := hf b hb
    exact ⟨f3, f1, f4, f5⟩
  · have : b ≠ T := Nat.ne_of_lt (Nat.lt_of_lt_of_le (Heap.lt_size e) hp)
    rw [upd_ne this]
    exact n
  · obtain ⟨o, es, ep, ho, r⟩ := hm
    exact ⟨o, es, ep, k _ o (fun z => (hf _ z).2.1 rfl) ho, r⟩
  · by_cases hb : b = T
    · subst hb
      rw [upd_same] at e
      cases e
      exact new
    · rw [upd_ne hb] at e
      refine (I.hok b u e).stay (fun c v hc q => k c v ?_ q) (fun c q => up c _ q) fun c xs q => up c _ q
      rcases hc with z | z
      · rw [z]; exact nL b u e
      · exact nL c _ z
theorem Inv.turnedL {L : List Addr} {t' : Nat} (I : Inv X pins σ H s) (k : ∀ b u, b ∉ L → s.heap.get? b = some u → h'.get? b = some u) (hf : ∀ b ∈ L, FpOk X pins H b) : Inv X pins σ H { s with heap := h', toks := t' } := by
  have nL : ∀ b u, H b = some u → b ∉ L := fun b u e z => by rw [(hf b z).1] at e; cases e
  refine I.step (g' := s.gens) (d' := s.drawn) (ch := L) (fun b hb => ?_) (fun b o _ _ hc e _ => k b o hc e) (fun b o _ _ hc e _ => ⟨o.slots, k b o hc e⟩) (fun _ _ _ _ n => n)
    (fun b o hc e => ⟨o, k b o hc e⟩) (fun _ _ e => e) (fun _ _ _ e => e) (fun b ps e => ⟨#[], by rw [e]; simp⟩) (fun m hm => ?_) (fun b u e => ?_) I.bare
  · obtain ⟨f0, f1, f2, f3, f4, f5⟩ := hf b hb
    exact ⟨f3, f1, f4, f5⟩
  · obtain ⟨o, es, ep, ho, r⟩ := hm
    exact ⟨o, es, ep, k _ o (fun z => (hf _ z).2.1 rfl) ho, r⟩
  · refine (I.hok b u e).stay (fun c v hc q => k c v ?_ q) (fun _ q => q) fun _ _ q => q
    rcases hc with z | z
    · rw [z]; exact nL b u e
    · exact nL c _ z
end
def Itz (K : PySem.W.Frag) (a b : Addr) : It := ⟨fun i H => ∃ xs ys x y, SqL K H a xs ∧ SqL K H b ys ∧ xs[i]? = some x ∧ ys[i]? = some y,
  fun i H v H' => ∃ p, H p = none ∧ v = .ref p ∧ ∀ xs ys x y, SqL K H a xs → SqL K H b ys → xs[i]? = some x → ys[i]? = some y → H' = upd H p (.tup [x, y]),
  fun i H => ∃ xs ys, SqL K H a xs ∧ SqL K H b ys ∧ (xs.length ≤ i ∨ ys.length ≤ i)⟩
theorem turn_zip {P : Program} {w : World} {K : PySem.W.Frag} {elts : List Expr} {x1 : Nat} {tpos : Pos} (a b z TI TO i1 i2 : Addr) (AP : ∀ l, l ≠ z → l ≠ TI → l ≠ TO → l ≠ i1 → l ≠ i2 → ∀ l', l' ≠ z → l' ≠ TI → l' ≠ TO → l' ≠ i1 → l' ≠ i2 → ZipApart z TI TO i1 i2 l l') :
    Turn P w K (.Tuple elts x1 tpos) (Itz K a b) [z, TI, TO, i1, i2] z (fun i h => IsZip h z TI TO .none ∧ IsPair h TI (.ref i1) (.ref i2) ∧ (∃ u v, IsPair h TO u v) ∧ h.IsListIter i1 a i ∧ h.IsListIter i2 b i) where
  mem := by simp
  obj := fun i h st c hc => by
    obtain ⟨hz, hTI, ⟨u, v, hTO⟩, ⟨o1, e1, c1, d1⟩, ⟨o2, e2, c2, d2⟩⟩ := st
    simp only [List.mem_cons, List.mem_nil_iff, or_false] at hc
    rcases hc with rfl | rfl | rfl | rfl | rfl
    · exact ⟨_, hz, fun v z => by cases z⟩
    · exact ⟨_, hTI, fun v z => by cases z⟩
    · exact ⟨_, hTO, fun v z => by cases z⟩
    · exact ⟨o1, e1, fun v z => by rw [d1] at z; cases z⟩
    · exact ⟨o2, e2, fun v z => by rw [d2] at z; cases z⟩
  keep := fun i h h' st k => by
    obtain ⟨hz, hTI, ⟨u, v, hTO⟩, h1, h2⟩ := st
    exact ⟨k z (by simp) _ hz, k TI (by simp) _ hTI, ⟨u, v, k TO (by simp) _ hTO⟩, h1.at fun o e => k i1 (by simp) o e, h2.at fun o e => k i2 (by simp) o e⟩
  item := by
    intro X hP hw hK hc i pins s σ H E I hf st hg
    subst hP hw hK
    obtain ⟨hz, hTI, ⟨u0, v0, hTO⟩, h1, h2⟩ := st
    obtain ⟨xs, ys, x, y, qa, qb, hx, hy⟩ := hg
    obtain ⟨its, rv, p, _⟩ := I.list qa
    obtain ⟨its2, rv2, p2, _⟩ := I.list qb
    obtain ⟨u, hu, ru⟩ := rv.get hx
    obtain ⟨u2, hu2, ru2⟩ := rv2.get hy
    have ne : ∀ {l : Addr} {its : Array Value}, s.heap.IsList l its → ∀ {c : Addr} {o : Obj}, s.heap.get? c = some o → o.cls ≠ .type "list" → l ≠ c := fun q c o e hc z => by
      subst z
      obtain ⟨o1, e1, c1, _⟩ := q
      rw [e1] at e
      cases e
      exact hc c1
    have D : ZipApart z TI TO i1 i2 a b := by
      obtain ⟨o1, e1, c1, _⟩ := id h1
      obtain ⟨o2, e2, c2, _⟩ := id h2
      have k1 : o1.cls ≠ .type "list" := by rw [c1]; decide
      have k2 : o2.cls ≠ .type "list" := by rw [c2]; decide
      exact AP a (ne p.isList hz (by show Value.type "zip" ≠ _; decide)) (ne p.isList hTI (by show Value.type "tuple" ≠ _; decide)) (ne p.isList hTO (by show Value.type "tuple" ≠ _; decide)) (ne p.isList e1 k1) (ne p.isList e2 k2)
        b (ne p2.isList hz (by show Value.type "zip" ≠ _; decide)) (ne p2.isList hTI (by show Value.type "tuple" ≠ _; decide)) (ne p2.isList hTO (by show Value.type "tuple" ≠ _; decide)) (ne p2.isList e1 k1) (ne p2.isList e2 k2)
    refine wpAny_pyNext_zip_item D hz hTI hTO h1 h2 p.isList p2.isList (x := u) (y := u2) (by simpa using hu) (by simpa using hu2) fun h' z1 z2 z3 z4 z5 z6 kk => ⟨_, rfl, ?_⟩
    refine wpAny_letOwnedTupleGo_zip z1 fun h'' z1' sb => ?_
    have nT : ∀ c o, s.heap.get? c = some o → s.heap.objs.size ≠ c := fun c o e => Nat.ne_of_gt (Heap.lt_size e)
    have nTz : s.heap.objs.size ≠ z := nT _ _ hz
    have kT : ∀ c o, c ≠ z → h'.get? c = some o → h''.get? c = some o := fun c o hc e => (sb.2 c hc).trans e
    have hf4 : ∀ c ∈ [z, TI, TO, i1, i2], FpOk X pins H c := hf
    have I1 : Inv X pins σ (upd H s.heap.objs.size (.tup [x, y])) { s with heap := h'' } := I.turnLaid (L := [z, TI, TO, i1, i2]) (t' := s.toks)
      (fun c o hc e => kT c o (fun z => hc (by simp [z])) (kk c o (fun z => hc (by simp [z])) (fun z => hc (by simp [z])) (fun z => hc (by simp [z])) (fun z => hc (by simp [z])) e)) hf4 (Nat.le_refl _)
      ⟨by show 2 ≤ sizeLine; decide, [u, u2], .cons ru (.cons ru2 .nil), ⟨_, kT _ _ nTz z5, rfl, _, rfl⟩⟩
    refine ⟨.ref s.heap.objs.size, _, I1, rfl, ⟨s.heap.objs.size, I.hok.fresh (Nat.le_refl _), rfl, fun xs' ys' x' y' qa' qb' hx' hy' => ?_⟩, ⟨z1', kT _ _ D.TIz (kk _ _ D.TIz D.TITO D.TIi1 D.TIi2 hTI), ⟨_, _, kT _ _ D.TOz z2⟩, z3.at fun o e => kT _ o D.i1z e, z4.at fun o e => kT _ o D.i2z e⟩, fun c hc => ?_⟩
    · rw [I.list_inj qa' qa, hx] at hx'
      rw [I.list_inj qb' qb, hy] at hy'
      cases hx'
      cases hy'
      rfl
    · have h0 := (hf c hc).1
      by_cases e : c = s.heap.objs.size
      · subst e
        obtain ⟨o1, e1, _⟩ := h1
        obtain ⟨o2, e2, _⟩ := h2
        simp only [List.mem_cons, List.mem_nil_iff, or_false] at hc
        rcases hc with e | e | e | e | e
        · exact absurd e nTz
        · exact absurd e (nT _ _ hTI)
        · exact absurd e (nT _ _ hTO)
        · exact absurd e (nT _ _ e1)
        · exact absurd e (nT _ _ e2)
      · rw [upd_ne e]; exact h0
  done := by
    intro X hP hw hK hc i pins s σ H E I hf st hg
    subst hP hw hK
    obtain ⟨hz, hTI, ⟨u0, v0, hTO⟩, h1, h2⟩ := st
    obtain ⟨xs, ys, qa, qb, hl⟩ := hg
    obtain ⟨its, rv, p, _⟩ := I.list qa
    obtain ⟨its2, rv2, p2, _⟩ := I.list qb
    have l1 := rv.length
    have l2 := rv2.length
    have ne : ∀ {l : Addr} {its : Array Value}, s.heap.IsList l its → ∀ {c : Addr} {o : Obj}, s.heap.get? c = some o → o.cls ≠ .type "list" → l ≠ c := fun q c o e hc z => by
      subst z
      obtain ⟨o1, e1, c1, _⟩ := q
      rw [e1] at e
      cases e
      exact hc c1
    have D : ZipApart z TI TO i1 i2 a b := by
      obtain ⟨o1, e1, c1, _⟩ := id h1
      obtain ⟨o2, e2, c2, _⟩ := id h2
      have k1 : o1.cls ≠ .type "list" := by rw [c1]; decide
      have k2 : o2.cls ≠ .type "list" := by rw [c2]; decide
      exact AP a (ne p.isList hz (by show Value.type "zip" ≠ _; decide)) (ne p.isList hTI (by show Value.type "tuple" ≠ _; decide)) (ne p.isList hTO (by show Value.type "tuple" ≠ _; decide)) (ne p.isList e1 k1) (ne p.isList e2 k2)
        b (ne p2.isList hz (by show Value.type "zip" ≠ _; decide)) (ne p2.isList hTI (by show Value.type "tuple" ≠ _; decide)) (ne p2.isList hTO (by show Value.type "tuple" ≠ _; decide)) (ne p2.isList e1 k1) (ne p2.isList e2 k2)
    have hend : its.toArray[i]? = none ∨ its2.toArray[i]? = none := by
      rcases hl with z | z
      · left; simp; omega
      · right; simp; omega
    exact wpAny_pyNext_zip_end (I.ok.hd hc) D hz hTI hTO h1 h2 p.isList p2.isList hend fun h' kk => ⟨rfl, I.turnedL (L := [z, TI, TO, i1, i2]) (t' := s.toks) (fun c o hc e => kk c o (fun z => hc (by simp [z])) (fun z => hc (by simp [z])) (fun z => hc (by simp [z])) (fun z => hc (by simp [z])) e) hf⟩
  self := fun _ _ _ _ _ st h => wpAny_pyIter_zip st.1 h
section
variable {X : Cx} {elts : List Expr} {x1 : Nat} {tpos : Pos}
def iZip (K : PySem.W.Frag) (ta : TA) : TI := fun σ H R => ta σ H fun vs H1 => ∃ a b, vs = [.ref a, .ref b] ∧ (∃ xs, SqL K H1 a xs) ∧ (∃ ys, SqL K H1 b ys) ∧ R (Itz K a b) H1
theorem pi_zip {a b : Expr} {ta : TA} {p pos : Pos} (hg : Gl X "zip") (hm : X.mg "zip" = none) (ha : PA X [a, b] ta) (hs : starEach [a, b] X.env = [(false, eval a X.env), (false, eval b X.env)] := by rfl) (hs2 : starEach [b] X.env = [(false, eval b X.env)] := by rfl) :
    PI X (.Tuple elts x1 tpos) (.Call (.Name "zip" p) [a, b] [] pos) (iZip X.K ta) := by
  intro pins s σ H R I h
  refine Call_ (ld_blt I hg hm boot_zip (PyProof.Rows.callWith_type1 (thn (ha pos pins s σ H _ I h) fun us s1 ⟨vs, H1, I1, r1, q1⟩ => ?_) (by rw [hs, hs2]) (by rw [hs2]; rfl)))
  obtain ⟨l, l', e, ⟨xs, qa⟩, ⟨ys, qb⟩, q⟩ := q1
  subst e
  cases r1 with
  | cons r rr =>
    cases rr with
    | cons r' rr =>
      cases rr
      cases r
      cases r'
      obtain ⟨its, rv, p, _⟩ := I1.list qa
      obtain ⟨its2, rv2, p2, _⟩ := I1.list qb
      refine call_zip_2 p.isList p2.isList fun h' z1 z2 z3 z4 z5 z6 kk => ?_
      refine wpAny_pyIter_zip z1 ?_
      have I2 : Inv X pins σ H1 { s1 with heap := h' } := I1.kept (t' := s1.toks) kk
      have fr : ∀ c, s1.heap.objs.size ≤ c → FpOk X pins H1 c := fun c hc => I1.fpOk hc (I1.hok.fresh hc)
      refine ⟨s1.heap.objs.size + 4, [s1.heap.objs.size + 4, s1.heap.objs.size + 2, s1.heap.objs.size + 3, s1.heap.objs.size, s1.heap.objs.size + 1], _, _, H1, rfl, I2, turn_zip l l' (s1.heap.objs.size + 4) (s1.heap.objs.size + 2) (s1.heap.objs.size + 3) s1.heap.objs.size (s1.heap.objs.size + 1) ?_,
        ⟨z1, z2, ⟨_, _, z3⟩, z4, z5⟩, fun c hc => ?_, q⟩
      · intro l n1 n2 n3 n4 n5 l' m1 m2 m3 m4 m5
        have ne : ∀ i j : Nat, i ≠ j → s1.heap.objs.size + i ≠ s1.heap.objs.size + j := fun i j h z => h (Nat.add_left_cancel z)
        exact ⟨ne 2 4 (by decide), ne 3 4 (by decide), ne 0 4 (by decide), ne 1 4 (by decide), ne 2 3 (by decide), ne 2 0 (by decide), ne 2 1 (by decide), ne 3 0 (by decide), ne 3 1 (by decide), ne 0 1 (by decide), n1, n3, n4, n5, m1, m3, m4, m5⟩
      · simp only [List.mem_cons, List.mem_nil_iff, or_false] at hc
        rcases hc with e | e | e | e | e <;> rw [e] <;> first | exact fr _ (Nat.le_add_right _ _) | exact fr _ (Nat.le_refl _)
theorem ji_zip {a b : Expr} {ta : TA} {p pos : Pos} (hg : Gl X "zip") (hm : X.mg "zip" = none) (ha : JA X [a, b] ta) (hs : starEach [a, b] X.env = [(false, eval a X.env), (false, eval b X.env)] := by rfl) (hs2 : starEach [b] X.env = [(false, eval b X.env)] := by rfl) : JI X (.Tuple elts x1 tpos) (.Call (.Name "zip" p) [a, b] [] pos) (iZip X.K ta) := .of (pi_zip hg hm ha.to hs hs2)
end
theorem for_zip {K : PySem.W.Frag} {a b : Addr} {xs ys : List V} {g : TG} {tb : TS} {D : Ends} {σ : St} {H : Hp} (hxy : xs.length = ys.length) (Pv : Nat → St → Hp → Prop) (h0 : Pv 0 σ H) (hl : ∀ i σ H, i ≤ xs.length → Pv i σ H → SqL K H a xs ∧ SqL K H b ys)
    (hs : ∀ i x y σ H p, xs[i]? = some x → ys[i]? = some y → H p = none → Pv i σ H → g (.ref p) σ (upd H p (.tup [x, y])) fun σ2 H2 => tb { D with nx := Pv (i + 1), ct := Pv (i + 1), bk := D.nx } σ2 H2) (hd : ∀ σ H, Pv xs.length σ H → D.nx σ H) :
    ∃ W : Nat → Nat → St → Hp → Prop, (∃ m, W 0 m σ H) ∧ ∀ i m σ H, W i m σ H →
      ((Itz K a b).stop i H ∧ D.nx σ H) ∨ ((Itz K a b).go i H ∧ ∃ N : St → Hp → Prop, (∀ σ' H', N σ' H' → ∃ m', m' < m ∧ W (i + 1) m' σ' H') ∧ ∀ x H', (Itz K a b).yld i H x H' → g x σ H' fun σ2 H2 => tb { D with nx := N, ct := N, bk := D.nx } σ2 H2) := by
  refine ⟨fun i m σ H => m = xs.length - i ∧ i ≤ xs.length ∧ Pv i σ H, ⟨xs.length, by simp, Nat.zero_le _, h0⟩, ?_⟩
  rintro i m σ H ⟨rfl, hi, p⟩
  obtain ⟨qa, qb⟩ := hl i σ H hi p
  by_cases hlt : i < xs.length
  · have ex : xs[i]? = some xs[i] := List.getElem?_eq_getElem hlt
    have ey : ys[i]? = some (ys[i]'(by omega)) := List.getElem?_eq_getElem (by omega)
    refine .inr ⟨⟨xs, ys, _, _, qa, qb, ex, ey⟩, Pv (i + 1), fun σ' H' p' => ⟨xs.length - (i + 1), by omega, rfl, hlt, p'⟩, fun x H' yl => ?_⟩
    obtain ⟨pp, hp, rfl, e⟩ := yl
    rw [e xs ys _ _ qa qb ex ey]
    exact hs i _ _ σ H pp ex ey hp p
  · have e : i = xs.length := by omega
    subst e
    exact .inl ⟨⟨xs, ys, qa, qb, .inl (Nat.le_refl _)⟩, hd σ H p⟩
end L2
set_option Elab.async false
set_option linter.all false
set_option maxRecDepth 100000
set_option maxHeartbeats 4000000
namespace L2
open PySem PySem.Spec PyProof.Rows
section
variable {X : Cx}
theorem vals_refs : ∀ {cs : List Addr} {us : List Value}, Vals (cs.map V.ref) us → us = cs.map Value.ref
  | [], _, .nil => rfl
  | c :: cs, u :: us, .cons r t => by
    obtain rfl : u = Value.ref c := r
    rw [List.map_cons, vals_refs t]
def rEqV (K : PySem.W.Frag) : R2 := fun x y H Q => ∃ d d', DV K H x d ∧ DV K H y d' ∧ PySem.SeqAt.shaped d = true ∧ PySem.SeqAt.shaped d' = true ∧ Q (.bl (PyData.eqv d d')) H
theorem op_eqV (hu : X.A.units + 64 < cLine) : OpR X (compareOp .Eq) (rEqV X.K) := by
  intro pins s σ H x y v u Q I rx ry h
  obtain ⟨d, d', h1, h2, hs, hs', q⟩ := h
  obtain ⟨as, ra⟩ := h1.reads I rx
  obtain ⟨bs, rb⟩ := h2.reads I ry
  exact eq_dataH ra rb hs hs' hu ⟨.bl _, H, I, rfl, q⟩
end
section
variable {X : Cx} {o e : Expr} {es : List Expr} {ta : TE} {t : TA} {m : Str} {C C' f f' : Addr} {fd fd' : FuncData} {ps ps' : List Str} {k k' : Nat} {sp sp' : Sp} {apos pos : Pos}
end
section
variable {X : Cx} {e : Expr} {es : List Expr} {te : TE} {t : TA}
end
end L2
set_option Elab.async false
set_option linter.all false
set_option maxRecDepth 100000
set_option maxHeartbeats 4000000
namespace L2
open PySem PySem.Spec PySem.W PyProof.Rows
theorem mr_le : ∀ (f n r : Nat), r ≤ 1 → minRun' f n r ≤ n + r
  | 0, n, r, _ => Nat.le_refl _
  | f + 1, n, r, hr => by
    rw [minRun'_succ]
    split
    · exact Nat.le_refl _
    · have h1 : max r (n % 2) ≤ 1 := Nat.max_le.mpr ⟨hr, by omega⟩
      have := mr_le f (n / 2) (max r (n % 2)) h1
      omega
section
variable {P : Program} {w : World} {B : Around} {F : Value → Shared → Prop} {κ : SortKind} {it : Array Keyed} {z : Shared}
theorem rise_asc {n : Nat} {R : Nat → Shared → Prop} (hc : ∀ i, 1 ≤ i → i < n → ∀ C : Bool → Shared → Prop, C false z → kas_cmp P w B κ it i (i - 1) C z) (hR : R n z) :
    ∀ (f a : Nat), 1 ≤ a → a + f = n → (kas_asc (List.toArray (List.range n)) f a).kasWp (kas_cmp P w B κ it) R z
  | 0, a, _, e => by
    have e' : a = n := by omega
    subst e'
    exact hR
  | f + 1, a, h1, e => by
    have g : ∀ i, i < n → (List.toArray (List.range n)).getD i 0 = i := fun i hi => by simp [Array.getD, hi]
    show kas_cmp P w B κ it ((List.toArray (List.range n)).getD a 0) ((List.toArray (List.range n)).getD (a - 1) 0) _ z
    rw [g a (by omega), g (a - 1) (by omega)]
    refine hc a h1 (by omega) _ ?_
    show KasT.kasWp _ (if false = true then _ else _) R z
    rw [if_neg Bool.false_ne_true]
    exact rise_asc hc hR f (a + 1) (by omega) (by omega)
theorem rise_runs {n : Nat} {Q : Unit → SortSt → Shared → Prop} (h2 : 2 ≤ n) (hc : ∀ i, 1 ≤ i → i < n → ∀ C : Bool → Shared → Prop, C false z → kas_cmp P w B κ it i (i - 1) C z)
    (hQ : ∀ st, arrOf st = (List.toArray (List.range n)).map (kas_item it) → failedOf st = none → Q () st z) : kasC (model P w) B F sortRuns' Q (kas_st κ it (List.toArray (List.range n))) z := by
  obtain ⟨r, rfl⟩ : ∃ r, n = r + 2 := ⟨n - 2, by omega⟩
  have sz : (List.toArray (List.range (r + 2))).size = r + 2 := by simp
  have sa : (arrOf (kas_st κ it (List.toArray (List.range (r + 2))))).size = r + 2 := (Array.size_map ..).trans sz
  have le := mr_le (r + 2) (r + 2) 0 (by decide)
  rw [sortRuns'_eq]
  refine kasC_bind (kasC_get ?_)
  dsimp only
  rw [sa]
  generalize minRun' (r + 2) (r + 2) 0 = M at le
  refine kasC_bind (kasC_range (show kasC _ _ _ (forIn (0 :: 1 :: List.range' 2 r) _ _) _ _ _ from kasC_cons ?_))
  dsimp only
  rw [if_neg (by omega)]
  simp only [Nat.sub_zero, Nat.zero_add]
  refine kasC_bind (kas_count_ (G := fun q z' => q = (r + 2, List.toArray (List.range (r + 2))) ∧ z' = z) (by omega) (by rw [sz]; exact Nat.le_refl _) (fun m p' z' _ _ _ hg => ?_) ?_)
  · obtain ⟨e, rfl⟩ := hg
    cases e
    dsimp only
    rw [if_neg (by omega)]
    refine kasC_bind (kasC_get ?_)
    rw [show (pendingOf (kas_st κ it (List.toArray (List.range (r + 2))))).back? = none from rfl]
    dsimp only
    refine kasC_bind (kasC_modify (kasC_pure (show kasC _ _ _ (forIn (1 :: List.range' 2 r) _ _) _ _ _ from kasC_cons ?_)))
    dsimp only
    rw [if_pos (Nat.le_refl _)]
    refine kasC_pure ?_
    dsimp only
    refine kasC_bind (kasC_range (show kasC _ _ _ (forIn (0 :: 1 :: List.range' 2 r) _ _) _ _ _ from kasC_cons (kasC_bind (kasC_get ?_))))
    rw [if_pos (show (pendingOf (setPending (kas_st κ it (List.toArray (List.range (r + 2)))) ((pendingOf (kas_st κ it (List.toArray (List.range (r + 2))))).push (0, r + 2, 0)))).size ≤ 1 from Nat.le_refl 1)]
    refine kasC_pure ?_
    dsimp only
    exact kasC_pure (hQ _ rfl rfl)
  · unfold kas_count
    rw [KasT.kasWp_bind]
    refine rise_asc hc ?_ _ 1 (Nat.le_refl 1) (by omega)
    rw [if_pos (beq_self_eq_true _)]
    exact ⟨rfl, rfl⟩
end
def PairAt (h : Heap) (v : Value) (k : Int × Int) : Prop := ∃ p o n t u, v = .ref p ∧ h.get? p = some o ∧ o.cls = .type "tuple" ∧ o.data = .seq #[.int k.1 t, .int k.2 u] n
def lexLt2 (a b : Int × Int) : Prop := a.1 < b.1 ∨ (a.1 = b.1 ∧ a.2 < b.2)
section
variable {P : Program} {w : World} {B : Around} {F : Value → Shared → Prop} {z : Shared}
theorem pair_not_lt {v u : Value} {a b : Int × Int} (hv : PairAt z.heap v b) (hu : PairAt z.heap u a) (hlt : lexLt2 a b) {C : Bool → Shared → Prop} (hC : C false z) : wpAny (model P w) B (keyLt' (tuples' true) v u) C (fun _ _ => False) z := by
  obtain ⟨p, o, n, t1, t2, rfl, h1, _, d1⟩ := hv
  obtain ⟨p', o', n', t1', t2', rfl, h1', _, d1'⟩ := hu
  refine kat_lt h1 d1 h1' d1' ?_
  show KatLex P w B true _ C [(.int b.1 t1, .int a.1 t1'), (.int b.2 t2, .int a.2 t2')] 0 z
  refine kat_cons (SeqAt.EqAt.int_int b.1 t1 a.1 t1' P w _ _ ?_)
  rcases hlt with h | ⟨h, h'⟩
  · have e : (b.1 == a.1) = false := by
      rw [beq_eq_false_iff_ne]
      omega
    rw [e]
    refine kat_no (show wpAny _ _ (oneLt' true _ _) _ _ _ from oneLt_int ?_)
    rw [decide_eq_false (by omega)]
    exact hC
  · have e : (b.1 == a.1) = true := by rw [h]; exact beq_self_eq_true _
    rw [e]
    refine kat_yes (kat_cons (SeqAt.EqAt.int_int b.2 t2 a.2 t2' P w _ _ ?_))
    have e2 : (b.2 == a.2) = false := by
      rw [beq_eq_false_iff_ne]
      omega
    rw [e2]
    refine kat_no (show wpAny _ _ (oneLt' false _ _) _ _ _ from kat_one _ _ (lt_int ?_))
    show C (decide (b.2 < a.2)) z
    rw [decide_eq_false (by omega)]
    exact hC
theorem PairAt.keep {h h' : Heap} {v : Value} {k : Int × Int} (x : PairAt h v k) (kp : ∀ b o, h.get? b = some o → o.cls = .type "tuple" → h'.get? b = some o) : PairAt h' v k := by
  obtain ⟨p, o, n, t, u, e, h1, c, d⟩ := x
  exact ⟨p, o, n, t, u, e, kp p o h1 c, c, d⟩
theorem pairs_snd (vs : List Value) : (pairsOf vs).map (·.2) = vs.toArray := by
  apply Array.ext'
  rw [Array.toList_map, pairsOf_toList, List.map_snd_zip (Nat.le_refl _)]
theorem tups_of {h : Heap} : ∀ (vs : List Value) (ks : List (Int × Int)), vs.length = ks.length → (∀ (i : Nat) (v : Value) (k : Int × Int), vs[i]? = some v → ks[i]? = some k → PairAt h v k) → ∃ fs, KatTups h vs fs ∧ fs.length = vs.length ∧ ∀ v ∈ fs, ∃ i t, v = Value.int i t
  | [], _, _, _ => ⟨[], .nil, rfl, fun v hv => (nomatch hv)⟩
  | v :: vs, [], hl, _ => by cases hl
  | v :: vs, k :: ks, hl, hv => by
    obtain ⟨fs, tf, lf, hf⟩ := tups_of vs ks (Nat.succ.inj hl) fun i u q e1 e2 => hv (i + 1) u q (by simpa using e1) (by simpa using e2)
    obtain ⟨p, o, n, t, u, rfl, h1, c, d⟩ := hv 0 v k rfl rfl
    refine ⟨.int k.1 t :: fs, .cons h1 c d rfl tf, by simp [lf], fun x hx => ?_⟩
    rcases List.mem_cons.mp hx with e | hx
    · exact ⟨_, _, e⟩
    · exact hf x hx
theorem sort_rise {a : Addr} {vs : List Value} {ks : List (Int × Int)} {n : Nat} {R : PySem.Fin → Shared → Prop} (ho : z.heap.get? a = some (seqObj "list" vs.toArray n)) (hl : vs.length = ks.length) (hv : ∀ (i : Nat) (v : Value) (k : Int × Int), vs[i]? = some v → ks[i]? = some k → PairAt z.heap v k)
    (hr : ∀ (i : Nat) (k k' : Int × Int), ks[i]? = some k → ks[i + 1]? = some k' → lexLt2 k k') (hz : vs.length ≤ 100000)
    (k : R (.done (.ret .none)) { z with heap := sortedHeap z.heap a vs vs.toArray }) : wpAny (model P w) B (Builtin.«list.sort» ⟨[.ref a], []⟩) R F z := by
  have na : ∀ b o, z.heap.get? b = some o → o.cls = .type "tuple" → b ≠ a := fun b o e c q => by
    rw [q, ho] at e
    cases e
    exact absurd c (show ¬ Value.type "list" = Value.type "tuple" by decide)
  rw [list_sort_plain]
  refine wpAny_bind (listItems_at ho rfl (wpAny_bind (listUpdate_at ho rfl ?_)))
  obtain ⟨c1, o1⟩ : ∃ c, (z.heap.update a (Obj.mapSeq fun _ => #[])).get? a = some (seqObj "list" #[] c) := ⟨_, get?_update_seq ho (fun _ => #[])⟩
  refine wpAny_bind (seqEpoch_at o1 rfl (wpAny_bind (wpAny_newTuple (wpAny_bind (wpAny_newList (wpAny_holding ?_))))))
  have lt := Heap.lt_size ho
  have o2 : (((z.heap.update a (Obj.mapSeq fun _ => #[])).push (seqObj "tuple" vs.toArray 0)).push (seqObj "list" #[] 0)).get? a = some (seqObj "list" #[] c1) := Heap.get?_push_of_some _ (Heap.get?_push_of_some _ o1)
  have kp : ∀ b o, z.heap.get? b = some o → o.cls = .type "tuple" → (((z.heap.update a (Obj.mapSeq fun _ => #[])).push (seqObj "tuple" vs.toArray 0)).push (seqObj "list" #[] 0)).get? b = some o := fun b o e c =>
    Heap.get?_push_of_some _ (Heap.get?_push_of_some _ ((Heap.get?_update_other _ _ (Ne.symm (na b o e c))).trans e))
  show wpAny (model P w) B _ R F { z with heap := ((z.heap.update a (Obj.mapSeq fun _ => #[])).push (seqObj "tuple" vs.toArray 0)).push (seqObj "list" #[] 0) }
  dsimp only
  have sv : vs.toArray.size = vs.length := by simp
  have ends : ∀ st : SortSt, (arrOf st).map (·.2) = vs.toArray → failedOf st = none → wpAny (model P w) B (do
      let touched := (← seqEpoch a) != c1
      Builtin.List.listUpdate (.ref a) fun _ => (arrOf st).map (·.2)
      if let some e := failedOf st then rule "list.sort.comparison-raised"; throw e
      if touched then rule "list.sort.modified"; raiseError "ValueError" "list modified during sort"
      ret .none) R F { z with heap := ((z.heap.update a (Obj.mapSeq fun _ => #[])).push (seqObj "tuple" vs.toArray 0)).push (seqObj "list" #[] 0) } := fun st e f => by
    refine wpAny_bind (seqEpoch_at o2 rfl ?_)
    rw [e, f]
    refine wpAny_bind (listUpdate_at o2 rfl ?_ (hsz2 := by rw [sv, sizeLine_eq]; omega))
    simp only [bne_self_eq_false, Bool.false_eq_true, if_false]
    exact wpAny_pure k
  by_cases h2 : vs.toArray.size < 2
  · rw [if_pos h2, if_pos h2]
    refine wpAny_bind (wpAny_pure ?_)
    rw [StateT.run_pure]
    refine wpAny_bind (wpAny_pure ?_)
    exact ends (SortSt.mk' general' (vs.toArray.zip vs.toArray) #[] 7 none) (pairs_snd vs) rfl
  · rw [if_neg h2, if_neg h2]
    have l2 : 2 ≤ vs.length := by omega
    have hv' : ∀ (i : Nat) (v : Value) (q : Int × Int), vs[i]? = some v → ks[i]? = some q → PairAt (((z.heap.update a (Obj.mapSeq fun _ => #[])).push (seqObj "tuple" vs.toArray 0)).push (seqObj "list" #[] 0)) v q := fun i v q e1 e2 => (hv i v q e1 e2).keep kp
    obtain ⟨fs, tf, lf, hf⟩ := tups_of vs ks hl hv'
    refine wpAny_bind (kat_kind (T := .type "int") tf (by omega) (fun v q => ?_) rfl ?_)
    · obtain ⟨i, t, rfl⟩ := hf v q
      exact Looks.of_pure rfl
    · have e : vs.toArray.zip vs.toArray = (List.toArray (List.range vs.length)).map (kas_item (pairsOf vs)) := by
        have := kas_range (pairsOf vs)
        rw [pairsOf_size] at this
        exact this.symm
      rw [e]
      have run : kasC (model P w) B F sortRuns' (fun _ st z' => z' = { z with heap := ((z.heap.update a (Obj.mapSeq fun _ => #[])).push (seqObj "tuple" vs.toArray 0)).push (seqObj "list" #[] 0) } ∧ (arrOf st).map (·.2) = vs.toArray ∧ failedOf st = none)
          (kas_st (tuples' true) (pairsOf vs) (List.toArray (List.range vs.length))) { z with heap := ((z.heap.update a (Obj.mapSeq fun _ => #[])).push (seqObj "tuple" vs.toArray 0)).push (seqObj "list" #[] 0) } := by
        refine rise_runs l2 (fun i i1 i2 C hC => ?_) fun st e1 e2 => ⟨rfl, by rw [e1, ← e]; exact pairs_snd vs, e2⟩
        unfold kas_cmp
        rw [kas_item_eq, kas_item_eq]
        have g : ∀ j, j < vs.length → vs[j]? = some (vs.getD j Value.none) := fun j hj => by simp [hj]
        have gk : ∀ j, j < vs.length → ∃ q, ks[j]? = some q := fun j hj => ⟨_, List.getElem?_eq_getElem (by omega)⟩
        obtain ⟨q1, eq1⟩ := gk i i2
        obtain ⟨q0, eq0⟩ := gk (i - 1) (by omega)
        have eq1' : ks[i - 1 + 1]? = some q1 := by rw [show i - 1 + 1 = i by omega]; exact eq1
        exact pair_not_lt (hv' i _ q1 (g i i2) eq1) (hv' (i - 1) _ q0 (g (i - 1) (by omega)) eq0) (hr (i - 1) q0 q1 eq0 eq1') hC
      refine wpAny_bind (wpAny_mono run (fun r z' h3 => ?_) fun _ _ x => x)
      obtain ⟨⟨⟩, st⟩ := r
      obtain ⟨rfl, e1, e2⟩ := h3
      exact ends st e1 e2
end
end L2
set_option Elab.async false
set_option linter.all false
set_option maxRecDepth 100000
set_option maxHeartbeats 4000000
namespace PySem
def RawD (h : Heap) (d : Addr) (es : Array DictEntry) (ep : Nat) : Prop := ∃ o, h.get? d = some o ∧ o.ExactDict ∧ o.data = .dict es ep
theorem RawD.keep {h h' : Heap} {d : Addr} {es : Array DictEntry} {ep : Nat} (x : RawD h d es ep) (k : ∀ o, h.get? d = some o → h'.get? d = some o) : RawD h' d es ep := let ⟨o, e, r⟩ := x; ⟨o, k o e, r⟩
section
variable {P : Program} {w : World} {B : Around} {F' : Value → Shared → Prop} {z : Shared} {d I : Addr} {es : Array DictEntry} {ep i : Nat}
theorem RawD.ty (x : RawD z.heap d es ep) : z.TypeIs (.ref d) "dict" := let ⟨o, e, c, _⟩ := x; ⟨o, e, c.1⟩
theorem raw_iter {R : Value → Shared → Prop} (hd : (d == sysModules) = false) (x : RawD z.heap d es ep)
    (k : R (.ref z.heap.objs.size) { z with heap := z.heap.push { cls := .type "dict_keyiterator", data := .fields #[.ref d, .int 0 0, .int es.size 0, .int ep 0] } }) : wpAny (model P w) B (pyIter (.ref d)) R F' z := by
  have ty := x.ty
  obtain ⟨o, ho, _, dat⟩ := x
  refine wpAny_pyIter_slot ty F.slot_dict_iter (wpAny_call_entry F.slot_dict_iter ty F.entry_dict_iter ?_ (F.args_dict_iter_1 _))
  unfold Builtin.«dict.__iter__»
  refine wpAny_bind (show wpAny _ _ (Builtin.Dict.dictSlotNone _ _) _ _ _ from ?_)
  unfold Builtin.Dict.dictSlotNone
  refine wpAny_bind (wpAny_notOrdered_dict ty (show wpAny _ _ (pure (Value.ref d)) _ _ z from wpAny_pure ?_))
  refine (show wpAny _ _ (Builtin.Dict.showsAll d >>= _) _ _ z from ?_)
  unfold Builtin.Dict.showsAll
  rw [if_neg (by rw [hd]; exact Bool.false_ne_true)]
  refine wpAny_bind (wpAny_pure (wpAny_bind (wpAny_dictEntries ho dat (wpAny_bind (wpAny_dictEpoch ho dat ?_)))))
  exact wpAny_bind (wpAny_newObj_type (wpAny_pure ⟨_, rfl, "dict_keyiterator", _, ⟨_, Heap.get?_push_size _ rfl, rfl⟩, F.slot_dict_keyiterator_next.lookup, by simpa [rawInt] using k⟩))
theorem raw_next {R : Option Value → Shared → Prop} (hit : z.heap.IsKeyIter I d i es.size ep) (x : RawD z.heap d es ep) (hi : i < es.size)
    (k : ∀ h', h'.IsKeyIter I d (i + 1) es.size ep → Heap.SameBut I z.heap h' → R (some es[i].key) { z with heap := h' }) : wpAny (model P w) B (pyNext (.ref I)) R F' z := by
  obtain ⟨o, ho, hc, hd⟩ := id hit
  obtain ⟨od, hod, _, dat⟩ := x
  have ty := hit.typeIs
  unfold pyNext
  refine wpAny_bind (wpAny_attempt (wpAny_callSpecial?_slot (name := Str.ofString "__next__") ty F.slot_dict_keyiterator_next (wpAny_call_entry F.slot_dict_keyiterator_next ty F.entry_dict_keyiterator_next ?_ (F.args_dict_keyiterator_next_1 _))))
  refine wpAny_bind (wpAny_pure (wpAny_bind (wpAny_bind (wpAny_bind ?_))))
  first | refine wpAny_typeNameOfWhole_keyiter ty (wpAny_pure (wpAny_bind (wpAny_fieldsOf ho hd ?_))) | refine wpAny_typeNameOf_keyiter ty (wpAny_pure (wpAny_bind (wpAny_fieldsOf ho hd ?_)))
  have own : Builtin.Dict_items.ownsTuple "dict_keyiterator" = false := by decide
  simp only [own, Bool.false_eq_true, if_false]
  show wpAny _ _ (if (Value.ref d == Value.none) = true then _ else _) _ _ z
  rw [if_neg (show ¬ ((Value.ref d == Value.none) = true) from Bool.false_ne_true)]
  refine wpAny_bind (wpAny_pure (wpAny_bind (wpAny_dictEntries hod dat ?_)))
  rw [if_neg (by simp)]
  refine wpAny_bind (wpAny_pure (wpAny_bind (wpAny_dictEpoch hod dat ?_)))
  rw [if_neg (by simp)]
  refine wpAny_pure ?_
  simp only [show ¬ ((i : Int) < 0) from by omega, if_false, Int.toNat_natCast, Array.getElem?_eq_getElem hi]
  refine wpAny_bind (wpAny_bind ?_)
  first | refine wpAny_typeNameOfWhole_keyiter ty (wpAny_pure (wpAny_bind (wpAny_isOneOf_keyiter ty ?_))) | refine wpAny_typeNameOf_keyiter ty (wpAny_pure (wpAny_bind (wpAny_isOneOf_keyiter ty ?_)))
  refine (show wpAny _ _ (setField (.ref I) 1 (rawInt ((i : Int) + 1)) >>= _) _ _ z from wpAny_bind (wpAny_setField ho hd (by simp) ?_))
  have hit' : (z.heap.update I (Obj.mapFields (·.setIfInBounds 1 (rawInt ((i : Int) + 1))))).IsKeyIter I d (i + 1) es.size ep :=
    ⟨_, Heap.get?_update_self _ ho (Obj.isFreed_of_fields (Obj.data_mapFields hd _)), (Obj.cls_mapFields ..).trans hc, by rw [Obj.data_mapFields hd]; simp [rawInt]⟩
  refine wpAny_bind (wpAny_holding (wpAny_bind (wpAny_isOneOf_keyiter (s := { z with heap := z.heap.update I (Obj.mapFields (·.setIfInBounds 1 (rawInt ((i : Int) + 1)))) }) hit'.typeIs ?_)))
  refine (show wpAny _ _ (pure es[i].key) _ _ _ from wpAny_pure (wpAny_pure ⟨_, rfl, wpAny_pure (k _ hit' (Heap.SameBut.update ..))⟩))
theorem raw_end {R : Option Value → Shared → Prop} (hB : B.handled = none) (hit : z.heap.IsKeyIter I d i es.size ep) (x : RawD z.heap d es ep) (hi : es.size ≤ i)
    (k : ∀ h', Heap.ExtBut I z.heap h' → R none { z with heap := h' }) : wpAny (model P w) B (pyNext (.ref I)) R F' z := by
  obtain ⟨o, ho, hc, hd⟩ := id hit
  obtain ⟨od, hod, _, dat⟩ := x
  have ty := hit.typeIs
  unfold pyNext
  refine wpAny_bind (wpAny_attempt (wpAny_callSpecial?_slot (name := Str.ofString "__next__") ty F.slot_dict_keyiterator_next (wpAny_call_entry F.slot_dict_keyiterator_next ty F.entry_dict_keyiterator_next ?_ (F.args_dict_keyiterator_next_1 _))))
  refine wpAny_bind (wpAny_pure (wpAny_bind (wpAny_bind (wpAny_bind ?_))))
  first | refine wpAny_typeNameOfWhole_keyiter ty (wpAny_pure (wpAny_bind (wpAny_fieldsOf ho hd ?_))) | refine wpAny_typeNameOf_keyiter ty (wpAny_pure (wpAny_bind (wpAny_fieldsOf ho hd ?_)))
  have own : Builtin.Dict_items.ownsTuple "dict_keyiterator" = false := by decide
  simp only [own, Bool.false_eq_true, if_false]
  show wpAny _ _ (if (Value.ref d == Value.none) = true then _ else _) _ _ z
  rw [if_neg (show ¬ ((Value.ref d == Value.none) = true) from Bool.false_ne_true)]
  refine wpAny_bind (wpAny_pure (wpAny_bind (wpAny_dictEntries hod dat ?_)))
  rw [if_neg (by simp)]
  refine wpAny_bind (wpAny_pure (wpAny_bind (wpAny_dictEpoch hod dat ?_)))
  rw [if_neg (by simp)]
  refine wpAny_pure ?_
  simp only [show ¬ ((i : Int) < 0) from by omega, if_false, Int.toNat_natCast, Array.getElem?_eq_none hi]
  refine wpAny_bind (wpAny_bind ?_)
  first | refine wpAny_typeNameOfWhole_keyiter ty (wpAny_pure ?_) | refine wpAny_typeNameOf_keyiter ty (wpAny_pure ?_)
  refine (show wpAny _ _ (setField (.ref I) 0 .none >>= _) _ _ z from wpAny_bind (wpAny_setField ho hd (by simp) ?_))
  refine (show wpAny _ _ (newExc (.type "StopIteration") [] >>= _) _ _ _ from wpAny_bind ?_)
  simp only [newExc, newTuple]
  refine wpAny_bind (wpAny_newObj_type (wpAny_bind (m := firstArgMember _ _) (wpAny_of_eq (a := Value.none) (by first | rfl | (simp only [firstArgMember]; rfl)) (wpAny_newObj_type ?_ (by size_fits)))) (by size_fits))
  simp only [raiseNew]
  refine wpAny_bind (wpAny_handled ?_)
  rw [show B.in1.handled = none from hB]
  refine wpAny_bind (wpAny_pure (wpAny_throw ?_))
  refine wpAny_bind (wpAny_isInstance (T := "StopIteration") (b := true) ⟨_, Heap.get?_push_size _ rfl, rfl⟩ isSubtype_stop ?_)
  exact wpAny_pure (k _ ((((Heap.SameBut.update ..).extBut).push _).push _))
end
end PySem
namespace PySem
open PySem.W
section
variable {P : Program} {w : World} {d : Addr} {es : Array DictEntry} {ep : Nat}
theorem raw_walks {B : Around} (hB : B.handled = none) (I : Addr) (hne : d ≠ I) : Walks P w B I [I, d] [I] es.size (fun i v => ∃ h : i < es.size, v = es[i].key) (fun i h => h.IsKeyIter I d i es.size ep ∧ RawD h d es ep) where
  sub := fun b hb => by simp at hb; simp [hb]
  frame := fun _ _ _ st k => ⟨st.1.at fun o e => k I (by simp) o e, st.2.keep fun o e => k d (by simp) o e⟩
  item := fun i z R G hi st q => raw_next st.1 st.2 hi fun h' it' sb => q _ h' z.toks ⟨hi, rfl⟩ ⟨it', st.2.keep fun o e => sb.extBut d o hne e⟩ fun b o hb e => sb.extBut b o (fun x => hb (by simp [x])) e
  done := fun z R G st q => raw_end hB st.1 st.2 (Nat.le_refl _) fun h' eb => q h' z.toks fun b o hb e => eb b o (fun x => hb (by simp [x])) e
  self := fun _ _ _ _ st q => wpAny_pyIter_keyiter st.1 q
theorem raw_src (hd : (d == sysModules) = false) : KdlSrc P w "dict" d d es.size (fun i v => ∃ h : i < es.size, v = es[i].key) (fun h => RawD h d es ep) where
  type := fun z x => x.ty
  there := fun h x => let ⟨o, e, _⟩ := x; ⟨Heap.lt_size e, Heap.lt_size e⟩
  keep := fun h h' x k => x.keep fun o e => k d (.inl rfl) o e
  notList := by decide
  notTuple := by decide
  hint := fun _ _ _ _ x q => kdl_hint_dict x.ty q
  iter := fun A z hh x => ⟨_, _, fun E Q q => raw_iter hd x q, raw_walks hh _ (let ⟨o, e, _⟩ := x; Nat.ne_of_lt (Heap.lt_size e)), ⟨⟨_, Heap.get?_push_size _ rfl, rfl, rfl⟩, x.keep fun o e => Heap.get?_push_of_some _ e⟩⟩
end
end PySem
namespace L2
open PySem PySem.Spec PySem.W PyProof.Rows
theorem paired_get {α β : Type} {G : α → β → Prop} : ∀ {l : List α} {m : List β}, Paired G l m → ∀ {i : Nat} {a : α}, l[i]? = some a → ∃ b, m[i]? = some b ∧ G a b
  | _, _, .nil, i, a, e => by simp at e
  | _, _, .cons r t, 0, a, e => by cases e; exact ⟨_, rfl, r⟩
  | _, _, .cons r t, i + 1, a, e => by
    obtain ⟨b, eb, g⟩ := paired_get t (by simpa using e)
    exact ⟨b, by simpa using eb, g⟩
section
variable {X : Cx}
def pairK (k : Int × Int) : List Key := [Sum.inl k.1, Sum.inl k.2]
def rSortD : List V → Hp → VK → Prop := fun xs H Q => ∃ (a : Addr) (kvs : List (List Key × V)) (ks : List (Int × Int)), xs = [.ref a] ∧ H a = some (.dT kvs) ∧ kvs.map (·.1) = ks.map pairK ∧ (∀ (i : Nat) (k k' : Int × Int), ks[i]? = some k → ks[i + 1]? = some k' → lexLt2 k k') ∧ kvs.length ≤ 1000 ∧
  ∀ (l : Addr) (ps : List Addr), H l = none → ps.length = ks.length → (∀ (i : Nat) (p : Addr) (k : Int × Int), ps[i]? = some p → ks[i]? = some k → H p = some (.tup [.int k.1, .int k.2])) → Q (.ref l) (upd H l (.lst (ps.map V.ref)))
theorem vals_ref : ∀ (ps : List Addr), Vals (ps.map V.ref) (ps.map Value.ref)
  | [] => .nil
  | p :: ps => .cons rfl (vals_ref ps)
theorem call_sortD (hc : X.calm = true) : CallR X (.builtin "sorted") rSortD := by
  intro pins s σ H xs us Q I r h
  obtain ⟨a, kvs, ks, rfl, ea, eks, hr, hz, q⟩ := h
  obtain ⟨u, rfl, ru⟩ := vals1 r
  cases ru
  obtain ⟨_, hsys, ys, pr, o, es, ep, eo, ex, dat, ents, _⟩ := (show ObjOk X.prog X.w H s.heap a (.dT kvs) from I.hok a _ ea)
  have ly : kvs.length = ys.length := Paired.length pr
  have lk : kvs.length = ks.length := by simpa using congrArg List.length eks
  have se : es.size = ys.length := by rw [← Array.length_toList, ents, List.length_map]
  have key : ∀ i (hi : i < es.size), es[i].key = .ref ((ys.map (·.2.1)).getD i 0) := fun i hi => by
    have e1 : es.toList[i]? = some es[i] := by simp [hi]
    have hy : i < ys.length := by omega
    rw [ents, List.getElem?_map, List.getElem?_eq_getElem hy] at e1
    have e2 := (Option.some.inj e1).symm
    rw [e2]
    show Value.ref ys[i].2.1 = _
    simp [hy]
  have tup : ∀ (i : Nat) (p : Addr) (k : Int × Int), (ys.map (·.2.1))[i]? = some p → ks[i]? = some k → H p = some (.tup [.int k.1, .int k.2]) := fun i p k e1 e2 => by
    rw [List.getElem?_map] at e1
    cases ey : ys[i]? with
    | none => rw [ey] at e1; cases e1
    | some y =>
      rw [ey] at e1
      have ep' : y.2.1 = p := Option.some.inj e1
      have hi : i < kvs.length := by
        have := (List.getElem?_eq_some_iff.mp ey).1
        omega
      obtain ⟨y', ey', g1, g2, _⟩ := paired_get pr (List.getElem?_eq_getElem hi)
      rw [ey] at ey'
      cases ey'
      have ek : kvs[i].1 = pairK k := by
        have h1 : (kvs.map (·.1))[i]? = some kvs[i].1 := by rw [List.getElem?_map, List.getElem?_eq_getElem hi]; rfl
        rw [eks, List.getElem?_map, e2] at h1
        exact (Option.some.inj h1).symm
      rw [ek, ep'] at g2
      exact g2
  have hh : X.A.in1.handled = none := I.ok.hd hc
  refine Calls.call_function_entry kind_sorted plain_sorted entry_sorted (args_sorted1 _) ?_
  unfold Builtin.«sorted»
  refine wpAny_bind (m := checkCount "sorted" 1 1 _) (wpAny_pure ?_)
  refine wpAny_bind (kdu_collect (raw_src (es := es) (ep := ep) hsys) hh ⟨o, eo, ex, dat⟩ (by rw [se, sizeLine_eq]; omega) fun h1 tk acc k1 it => ?_)
  have eacc : acc.toList = (ys.map (·.2.1)).map Value.ref := by
    refine List.ext_getElem? fun i => ?_
    by_cases hi : i < es.size
    · have ha : i < acc.size := by rw [it.1]; exact hi
      have e1 : acc[i]? = some acc[i] := Array.getElem?_eq_getElem ha
      obtain ⟨h', e2⟩ := it.2 i _ e1
      rw [Array.getElem?_toList, e1, e2, key i hi, List.getElem?_map]
      have hy : i < (ys.map (·.2.1)).length := by rw [List.length_map]; omega
      rw [List.getElem?_eq_getElem hy]
      simp [List.getD_eq_getElem?_getD, List.getElem?_eq_getElem hy]
    · rw [List.getElem?_eq_none (by rw [Array.length_toList, it.1]; omega), List.getElem?_eq_none (by rw [List.length_map, List.length_map]; omega)]
  rw [eacc]
  generalize hps : ys.map (·.2.1) = ps at eacc tup key
  have lp : ps.length = ks.length := by rw [← hps, List.length_map]; omega
  refine wpAny_bind (wpAny_newList ?_)
  have I1 : Inv X pins σ H { s with heap := h1, toks := tk } := I.kept (t' := tk) k1
  show wpAny _ _ _ _ _ { s with heap := h1.push (seqObj "list" (ps.map Value.ref).toArray 0), toks := tk }
  have oL : (h1.push (seqObj "list" (ps.map Value.ref).toArray 0)).get? h1.objs.size = some (seqObj "list" (ps.map Value.ref).toArray 0) := Heap.get?_push_size _ rfl
  have pa : ∀ (i : Nat) (v : Value) (k : Int × Int), (ps.map Value.ref)[i]? = some v → ks[i]? = some k → PairAt (h1.push (seqObj "list" (ps.map Value.ref).toArray 0)) v k := fun i v k e1 e2 => by
    rw [List.getElem?_map] at e1
    cases ep1 : ps[i]? with
    | none => rw [ep1] at e1; cases e1
    | some p =>
      rw [ep1] at e1
      obtain rfl := (Option.some.inj e1).symm
      obtain ⟨its, rv, ⟨ob, eb, cb, nb, db⟩, _⟩ := I1.tuple (.of (tup i p k ep1 e2) : SqT X.K H p _)
      cases rv with
      | cons r1 rv =>
        cases rv with
        | cons r2 rv =>
          cases rv
          obtain ⟨t1, rfl⟩ := r1
          obtain ⟨t2, rfl⟩ := r2
          exact ⟨p, ob, nb, t1, t2, rfl, Heap.get?_push_of_some _ eb, cb, db⟩
  refine wpAny_bind (wpAny_holding (wpAny_call_entry slot_list_sort ⟨_, oL, rfl⟩ entry_list_sort (sort_rise oL (by rw [List.length_map]; exact lp) pa hr (by rw [List.length_map]; omega) ⟨_, rfl, ?_⟩) (args_list_sort _)))
  refine wpAny_pure ⟨_, rfl, ?_⟩
  have lne : ∀ b o, h1.get? b = some o → b ≠ h1.objs.size := fun b o e => Nat.ne_of_lt (Heap.lt_size e)
  have kf : ∀ b o, h1.get? b = some o → (sortedHeap (h1.push (seqObj "list" (ps.map Value.ref).toArray 0)) h1.objs.size (ps.map Value.ref) (ps.map Value.ref).toArray).get? b = some o := fun b o e => by
    unfold sortedHeap
    rw [Heap.get?_update_other _ _ (Ne.symm (lne b o e))]
    exact Heap.get?_push_of_some _ (Heap.get?_push_of_some _ ((Heap.get?_update_other _ _ (Ne.symm (lne b o e))).trans (Heap.get?_push_of_some _ e)))
  obtain ⟨c2, o2⟩ : ∃ c, ((h1.push (seqObj "list" (ps.map Value.ref).toArray 0)).update h1.objs.size (Obj.mapSeq fun _ => #[])).get? h1.objs.size = some (seqObj "list" #[] c) := ⟨_, get?_update_seq oL (fun _ => #[])⟩
  obtain ⟨c3, o3⟩ : ∃ c, (sortedHeap (h1.push (seqObj "list" (ps.map Value.ref).toArray 0)) h1.objs.size (ps.map Value.ref) (ps.map Value.ref).toArray).get? h1.objs.size = some (seqObj "list" (ps.map Value.ref).toArray c) :=
    ⟨_, get?_update_seq (Heap.get?_push_of_some _ (Heap.get?_push_of_some _ o2)) (fun _ => (ps.map Value.ref).toArray)⟩
  refine ⟨.ref h1.objs.size, _, I1.laid (t' := tk) (o := .lst (ps.map V.ref)) kf (Nat.le_refl _) ⟨by rw [List.length_map, lp, ← lk]; exact Nat.le_of_lt (small1000 hz), _, c3, vals_ref ps, o3⟩, rfl, ?_⟩
  exact q _ ps (I1.hok.fresh (Nat.le_refl _)) lp tup
end
end L2
set_option Elab.async false
set_option linter.all false
set_option maxRecDepth 100000
set_option maxHeartbeats 4000000
namespace L2
open PySem PySem.Spec PySem.W PyProof.Rows
section
variable {X : Cx}
def rSlS : V → Option Int → Option Int → Hp → VK → Prop := fun x lo hi H Q => ∃ (z : Str) (j : Int), x = .str z ∧ lo = none ∧ hi = some j ∧ z.length ≤ 1000 ∧ Q (.str (Txt.slice z none (some j))) H
theorem sl_str : SlR X rSlS := by
  intro pins s σ H x v vl vu lo hi sl Q I rx hs pl pu h
  obtain ⟨z, j, rfl, rfl, rfl, hz, q⟩ := h
  obtain ⟨t, rfl⟩ := rx
  refine ⟨"str", _, PySem.F.slot_str_getitem.lookup, typeIs_str _ _ _, ?_⟩
  cases pl
  cases pu
  exact wpAny_getItem_str_slice (l := none) (u := some (j, _)) (st := none) hs rfl (post_val_or_str ⟨Nat.le_trans (Txt.slice_le z none (some j)) (Nat.le_of_lt (small1000 hz)), fun t' k => ⟨.str _, H, I.tok k, ⟨t', rfl⟩, q⟩⟩)
theorem slice_take (z : Str) (j : Nat) : (Txt.slice z none (some (j : Int))).cps.toList = z.cps.toList.take j := by
  have hl : z.cps.toList.length = z.length := Array.length_toList
  have idx : Builtin.Str.strSliceIndices none (some (j : Int)) 1 z.length = (List.range (min j z.length)).map (0 + ·) := by
    have e : Builtin.Str.strSliceIndices none (some (j : Int)) 1 z.length = sliceRange ((0 : Nat) : Int) ((min j z.length : Nat) : Int) 1 := by
      unfold Builtin.Str.strSliceIndices
      simp only [show (1 : Int) > 0 by decide, if_true, show ¬ ((j : Int) < 0) by omega, if_false]
      congr 1
      omega
    rw [e, sliceRange_one]
    rfl
  unfold Txt.slice
  rw [idx]
  split
  · rename_i h
    have hm : min j z.length = z.length := by simpa using h
    rw [List.take_of_length_le]
    omega
  · rw [pick_run]
    show (z.cps.toList.drop 0).take (min j z.length) = _
    rw [List.drop_zero]
    by_cases hj : j ≤ z.length
    · rw [Nat.min_eq_left hj]
    · rw [Nat.min_eq_right (by omega), List.take_of_length_le (by omega), List.take_of_length_le (by omega)]
def upN (n : Nat) : List V := (List.range n).map fun i => V.int (i : Nat)
def tLr (te : TE) : TE := fun σ H Q => te σ H fun x H1 => ∃ n : Nat, x = .int n ∧ n ≤ 1000 ∧ ∀ l, H1 l = none → Q (.ref l) (upd H1 l (.lst (upN n)))
theorem vals_up {n : Nat} {acc : Array Value} (h : ItemsOf (fun i v => ∃ t, v = .int (0 + i * 1) t) acc n) : Vals (upN n) acc.toList := by
  obtain ⟨hz, hv⟩ := h
  refine paired_of _ _ (by simp [upN, hz]) fun i x u h1 h2 => ?_
  have h2' : acc[i]? = some u := by simpa using h2
  obtain ⟨t, rfl⟩ := hv i u h2'
  have hi : i < n := by
    have := (Array.getElem?_eq_some_iff.mp h2').1
    omega
  unfold upN at h1
  rw [List.getElem?_map, List.getElem?_range hi] at h1
  obtain rfl := (Option.some.inj h1).symm
  refine ⟨t, ?_⟩
  congr 1
  omega
variable {e : Expr} {te : TE} {p1 p3 pos1 pos3 : Pos}
theorem pe_lr (hc : X.calm = true) (g1 : Gl X "list") (m1 : X.mg "list" = none) (g3 : Gl X "range") (m3 : X.mg "range" = none) (ha : PE X e te)
    (hs : starEach [e] X.env = [(false, eval e X.env)] := by rfl)
    (hs2 : starEach [.Call (.Name "range" p3) [e] [] pos3] X.env = [(false, eval (.Call (.Name "range" p3) [e] [] pos3) X.env)] := by rfl) :
    PE X (.Call (.Name "list" p1) [.Call (.Name "range" p3) [e] [] pos3] [] pos1) (tLr te) := by
  intro pins s σ H Q I h
  refine Call_ (ld_blt I g1 m1 boot_list (PyProof.Rows.callWith_type1 (spl1 hs2 ?_) (by rw [hs2]; rfl) rfl))
  refine Call_ (ld_blt I g3 m3 boot_range (PyProof.Rows.callWith_type1 (spl1 hs (thn (ha pins s σ H _ I h) fun u s1 ⟨x, H1, I1, r1, q1⟩ => ?_)) (by rw [hs]; rfl) rfl))
  obtain ⟨n, rfl, hn, q⟩ := q1
  obtain ⟨t, rfl⟩ := r1
  refine call_range_1 ?_
  refine call_list_range (n := n) (I1.ok.hd hc) (IsRange.new ..) (small_one (by omega) (by omega) (by omega) (by omega)) (rr_size n) (by omega) fun h' tk acc' c' kp e hi => ?_
  have s1z : s1.heap.objs.size ≤ (s1.heap.push ({ cls := .type "range", data := .fields #[.int 0 s1.toks, .int n t, .int 1 (s1.toks + 1)] } : Obj)).objs.size := by
    rw [Heap.size_push]
    omega
  exact ⟨.ref _, _, I1.laid (t' := tk) (o := .lst (upN n)) (fun b o eb => kp b o (Heap.get?_push_of_some _ eb)) s1z ⟨by simp only [upN, List.length_map, List.length_range]; exact Nat.le_of_lt (small1000 hn), acc'.toList, c', vals_up hi, by simpa using e⟩, rfl, q _ (I1.hok.fresh s1z)⟩
theorem je_lr (hc : X.calm = true) (g1 : Gl X "list") (m1 : X.mg "list" = none) (g3 : Gl X "range") (m3 : X.mg "range" = none) (ha : JE X e te) (hs : starEach [e] X.env = [(false, eval e X.env)] := by rfl) (hs2 : starEach [.Call (.Name "range" p3) [e] [] pos3] X.env = [(false, eval (.Call (.Name "range" p3) [e] [] pos3) X.env)] := by rfl) : JE X (.Call (.Name "list" p1) [.Call (.Name "range" p3) [e] [] pos3] [] pos1) (tLr te) := .of (pe_lr hc g1 m1 g3 m3 ha.to hs hs2)
theorem call_setL (hc : X.calm = true) : CallR X (.type "set") (fun xs H Q => ∃ (p : Addr) (ns : List Int), xs = [.ref p] ∧ SqL X.K H p (ns.map V.int) ∧ ns.length ≤ 1000 ∧ ∀ l S, H l = none → Q (.ref l) (upd H l (.set S (firstMet (fun i => ns.getD i 0) ns.length).length))) := by
  intro pins s σ H xs us Q I r h
  obtain ⟨p, ns, rfl, hq, hz, q⟩ := h
  obtain ⟨u, rfl, ru⟩ := vals1 r
  cases ru
  obtain ⟨its, rv, pl, _⟩ := I.list hq
  have hl := rv.length
  rw [List.length_map] at hl
  have hsz : its.toArray.size = ns.length := by rw [List.size_toArray, ← hl]
  refine call_set_list (ns := ns) (I.ok.hd hc) pl.isList (by simpa using intsAre_of rv) (by rw [hsz]; show ns.length + 1 < 4096; omega) fun h' tk so kp => ?_
  rw [hsz] at so
  exact ⟨.ref s.heap.objs.size, _, I.laid (t' := tk) (o := .set _ _) (fun b o e => kp b o (Heap.lt_size e) e) (Nat.le_refl _) so, rfl, q _ _ (I.hok.fresh (Nat.le_refl _))⟩
theorem call_lenSet : CallR X (.builtin "len") (fun xs H Q => ∃ a S n, xs = [V.ref a] ∧ H a = some (.set S n) ∧ Q (.int (n : Nat)) H) := by
  intro pins s σ H xs us Q I r h
  obtain ⟨a, S, n, rfl, ea, q⟩ := h
  obtain ⟨u, rfl, ru⟩ := vals1 r
  cases ru
  obtain ⟨o, es, ep, t, e1, e2, e3, _, _, b, f, rfl⟩ := (show ObjOk X.prog X.w H s.heap a (.set S n) from I.hok a _ ea)
  refine call_len_set e1 e2 e3 f (by have : es.size < 4096 := b; omega) ⟨.int _, H, I.tok _, ⟨_, rfl⟩, q⟩
end
end L2
set_option Elab.async false
set_option linter.all false
set_option maxRecDepth 100000
set_option maxHeartbeats 4000000
namespace L2
open PySem PySem.Spec PyProof.Rows
def Ite (K : PySem.W.Frag) (a : Addr) : It := ⟨fun i H => ∃ xs x, SqL K H a xs ∧ xs[i]? = some x,
  fun i H v H' => ∃ p, H p = none ∧ v = .ref p ∧ ∀ xs x, SqL K H a xs → xs[i]? = some x → H' = upd H p (.tup [.int (i : Nat), x]),
  fun i H => ∃ xs, SqL K H a xs ∧ xs.length ≤ i⟩
theorem turn_enum {P : Program} {w : World} {K : PySem.W.Frag} {elts : List Expr} {x1 : Nat} {tpos : Pos} (a e it : Addr) (hne : e ≠ it) :
    Turn P w K (.Tuple elts x1 tpos) (Ite K a) [e, it] e (fun i h => (∃ old, IsEnum h e it i old) ∧ h.IsListIter it a i) where
  mem := by simp
  obj := fun i h st c hc => by
    obtain ⟨⟨old, he⟩, ⟨o1, e1, c1, d1⟩⟩ := st
    simp only [List.mem_cons, List.mem_nil_iff, or_false] at hc
    rcases hc with rfl | rfl
    · exact ⟨_, he, fun v z => by cases z⟩
    · exact ⟨o1, e1, fun v z => by rw [d1] at z; cases z⟩
  keep := fun i h h' st k => by
    obtain ⟨⟨old, he⟩, h1⟩ := st
    exact ⟨⟨old, k e (by simp) _ he⟩, h1.at fun o e => k it (by simp) o e⟩
  item := by
    intro X hP hw hK hc i pins s σ H E I hf st hg
    subst hP hw hK
    obtain ⟨⟨old, he⟩, h1⟩ := st
    obtain ⟨xs, x, qa, hx⟩ := hg
    obtain ⟨its, rv, p, _⟩ := I.list qa
    obtain ⟨u, hu, ru⟩ := rv.get hx
    refine wpAny_pyNext_enum_item he h1 p.isList (x := u) (by simpa using hu) hne fun h' z1 z2 z3 z4 kk => ⟨_, rfl, ?_⟩
    refine wpAny_letOwnedTupleGo_enum z1 fun h'' z1' sb => ?_
    have nT : ∀ c o, s.heap.get? c = some o → s.heap.objs.size ≠ c := fun c o e => Nat.ne_of_gt (Heap.lt_size e)
    have kT : ∀ c o, c ≠ e → h'.get? c = some o → h''.get? c = some o := fun c o hc e => (sb.2 c hc).trans e
    have I1 : Inv X pins σ (upd H s.heap.objs.size (.tup [.int (i : Nat), x])) { s with heap := h'', toks := s.toks + 1 } := I.turnLaid (L := [e, it]) (t' := s.toks + 1)
      (fun c o hc e => kT c o (fun z => hc (by simp [z])) (kk c o (fun z => hc (by simp [z])) (fun z => hc (by simp [z])) e)) hf (Nat.le_refl _)
      ⟨by show 2 ≤ sizeLine; decide, [.int i s.toks, u], .cons ⟨_, rfl⟩ (.cons ru .nil), ⟨_, kT _ _ (nT _ _ he) z3, rfl, _, rfl⟩⟩
    refine ⟨.ref s.heap.objs.size, _, I1, rfl, ⟨s.heap.objs.size, I.hok.fresh (Nat.le_refl _), rfl, fun xs' x' qa' hx' => ?_⟩, ⟨⟨_, z1'⟩, z2.at fun o e => kT _ o (Ne.symm hne) e⟩, fun c hc => ?_⟩
    · rw [I.list_inj qa' qa, hx] at hx'
      cases hx'
      rfl
    · have h0 := (hf c hc).1
      by_cases ec : c = s.heap.objs.size
      · subst ec
        obtain ⟨o1, e1, _⟩ := h1
        simp only [List.mem_cons, List.mem_nil_iff, or_false] at hc
        rcases hc with e | e
        · exact absurd e (nT _ _ he)
        · exact absurd e (nT _ _ e1)
      · rw [upd_ne ec]; exact h0
  done := by
    intro X hP hw hK hc i pins s σ H E I hf st hg
    subst hP hw hK
    obtain ⟨⟨old, he⟩, h1⟩ := st
    obtain ⟨xs, qa, hl⟩ := hg
    obtain ⟨its, rv, p, _⟩ := I.list qa
    have l1 := rv.length
    exact wpAny_pyNext_enum_end (I.ok.hd hc) he h1 p.isList (by simp; omega) fun h' kk => ⟨rfl, I.turnedL (L := [e, it]) (t' := s.toks) (fun c o hc e => kk c o (fun z => hc (by simp [z])) e) hf⟩
  self := fun _ _ _ _ _ st h => let ⟨⟨_, he⟩, _⟩ := st; wpAny_pyIter_enum he h
section
variable {X : Cx} {elts : List Expr} {x1 : Nat} {tpos : Pos}
def iEnum (K : PySem.W.Frag) (ta : TA) : TI := fun σ H R => ta σ H fun vs H1 => ∃ a, vs = [.ref a] ∧ (∃ xs, SqL K H1 a xs) ∧ R (Ite K a) H1
theorem pi_enum {a : Expr} {ta : TA} {p pos : Pos} (hg : Gl X "enumerate") (hm : X.mg "enumerate" = none) (ha : PA X [a] ta) (hs : starEach [a] X.env = [(false, eval a X.env)] := by rfl) :
    PI X (.Tuple elts x1 tpos) (.Call (.Name "enumerate" p) [a] [] pos) (iEnum X.K ta) := by
  intro pins s σ H R I h
  refine Call_ (ld_blt I hg hm boot_enumerate (PyProof.Rows.callWith_type1 (thn (ha pos pins s σ H _ I h) fun us s1 ⟨vs, H1, I1, r1, q1⟩ => ?_) (by rw [hs]; rfl) rfl))
  obtain ⟨l, e, ⟨xs, qa⟩, q⟩ := q1
  subst e
  cases r1 with
  | cons r rr =>
    cases rr
    cases r
    obtain ⟨its, rv, p, _⟩ := I1.list qa
    refine call_enumerate_list p.isList fun h' z1 z2 z3 kk => ?_
    refine wpAny_pyIter_enum z1 ?_
    have I2 : Inv X pins σ H1 { s1 with heap := h' } := I1.kept (t' := s1.toks) kk
    have fr : ∀ c, s1.heap.objs.size ≤ c → FpOk X pins H1 c := fun c hc => I1.fpOk hc (I1.hok.fresh hc)
    refine ⟨s1.heap.objs.size + 1, [s1.heap.objs.size + 1, s1.heap.objs.size], _, _, H1, rfl, I2, turn_enum l (s1.heap.objs.size + 1) s1.heap.objs.size (Nat.succ_ne_self _), ⟨⟨_, z1⟩, z2⟩, fun c hc => ?_, q⟩
    simp only [List.mem_cons, List.mem_nil_iff, or_false] at hc
    rcases hc with e | e <;> rw [e] <;> first | exact fr _ (Nat.le_add_right _ _) | exact fr _ (Nat.le_refl _)
theorem ji_enum {a : Expr} {ta : TA} {p pos : Pos} (hg : Gl X "enumerate") (hm : X.mg "enumerate" = none) (ha : JA X [a] ta) (hs : starEach [a] X.env = [(false, eval a X.env)] := by rfl) : JI X (.Tuple elts x1 tpos) (.Call (.Name "enumerate" p) [a] [] pos) (iEnum X.K ta) := .of (pi_enum hg hm ha.to hs)
end
theorem for_enum {K : PySem.W.Frag} {a : Addr} {xs : List V} {g : TG} {tb : TS} {D : Ends} {σ : St} {H : Hp} (Pv : Nat → St → Hp → Prop) (h0 : Pv 0 σ H) (hl : ∀ i σ H, i ≤ xs.length → Pv i σ H → SqL K H a xs)
    (hs : ∀ i x σ H p, xs[i]? = some x → H p = none → Pv i σ H → g (.ref p) σ (upd H p (.tup [.int (i : Nat), x])) fun σ2 H2 => tb { D with nx := Pv (i + 1), ct := Pv (i + 1), bk := D.nx } σ2 H2) (hd : ∀ σ H, Pv xs.length σ H → D.nx σ H) :
    ∃ W : Nat → Nat → St → Hp → Prop, (∃ m, W 0 m σ H) ∧ ∀ i m σ H, W i m σ H →
      ((Ite K a).stop i H ∧ D.nx σ H) ∨ ((Ite K a).go i H ∧ ∃ N : St → Hp → Prop, (∀ σ' H', N σ' H' → ∃ m', m' < m ∧ W (i + 1) m' σ' H') ∧ ∀ x H', (Ite K a).yld i H x H' → g x σ H' fun σ2 H2 => tb { D with nx := N, ct := N, bk := D.nx } σ2 H2) := by
  refine ⟨fun i m σ H => m = xs.length - i ∧ i ≤ xs.length ∧ Pv i σ H, ⟨xs.length, by simp, Nat.zero_le _, h0⟩, ?_⟩
  rintro i m σ H ⟨rfl, hi, p⟩
  have qa := hl i σ H hi p
  by_cases hlt : i < xs.length
  · have ex : xs[i]? = some xs[i] := List.getElem?_eq_getElem hlt
    refine .inr ⟨⟨xs, _, qa, ex⟩, Pv (i + 1), fun σ' H' p' => ⟨xs.length - (i + 1), by omega, rfl, hlt, p'⟩, fun x H' yl => ?_⟩
    obtain ⟨pp, hp, rfl, e⟩ := yl
    rw [e xs _ qa ex]
    exact hs i _ σ H pp ex hp p
  · have e : i = xs.length := by omega
    subst e
    exact .inl ⟨⟨xs, qa, Nat.le_refl _⟩, hd σ H p⟩
theorem preSum_take (ns : List Nat) : ∀ i, i ≤ ns.length → preSum (fun j => ((ns.getD j 0 : Nat) : Int)) i = (((ns.take i).sum : Nat) : Int)
  | 0, _ => by simp [preSum]
  | i + 1, h => by
    have hi : i < ns.length := h
    show preSum _ i + _ = _
    rw [preSum_take ns i (Nat.le_of_lt hi), List.take_add_one, List.getElem?_eq_getElem hi, List.sum_append]
    simp [List.getD_eq_getElem?_getD, List.getElem?_eq_getElem hi]
theorem sum_take_le (ns : List Nat) (i : Nat) : (ns.take i).sum ≤ ns.sum := by
  have h : (ns.take i ++ ns.drop i).sum = ns.sum := by rw [List.take_append_drop]
  rw [List.sum_append] at h
  omega
theorem getD_le_sum (ns : List Nat) (i : Nat) : ns.getD i 0 ≤ ns.sum := by
  have h := sum_take_le ns (i + 1)
  rw [List.take_add_one, List.sum_append] at h
  rw [List.getD_eq_getElem?_getD]
  cases e : ns[i]? with
  | none => exact Nat.zero_le _
  | some x =>
    rw [e] at h
    simp at h ⊢
    omega
section
variable {X : Cx}
theorem call_sumN (hc : X.calm = true) : CallR X (.builtin "sum") (fun xs H Q => ∃ (p : Addr) (ns : List Nat), xs = [.ref p] ∧ SqL X.K H p (ns.map fun n => V.int ((n : Nat) : Int)) ∧ ns.sum < 2 ^ 62 ∧ Q (.int (ns.sum : Nat)) H) := by
  intro pins s σ H xs us Q I r h
  obtain ⟨p, ns, rfl, hq, hs, q⟩ := h
  obtain ⟨u, rfl, rx⟩ := vals1 r
  cases rx
  obtain ⟨its, rv, pl, hz⟩ := I.list hq
  have hlt : p < s.heap.objs.size := by
    obtain ⟨o, n, e, _⟩ := pl
    exact Heap.lt_size e
  have hn : its.toArray.size = ns.length := by
    have := rv.length
    rw [List.length_map] at this
    simp only [List.size_toArray]
    omega
  have hh : X.A.in1.handled = none := I.ok.hd hc
  refine call_sum_walk (wpAny_pyIter_list pl.isList ?_)
  refine ⟨s.heap.objs.size, [s.heap.objs.size, p], [s.heap.objs.size], its.toArray.size, fun i v => its.toArray[i]? = some v, _, fun j => ((ns.getD j 0 : Nat) : Int), rfl, Walks.list hh s.heap.objs.size p (Nat.ne_of_lt hlt) its.toArray,
    ⟨⟨_, Heap.get?_push_size _ rfl, rfl, rfl⟩, pl.isList.at fun o e => Heap.get?_push_of_some _ e⟩, ?_, ?_, ?_, fun h' tk t' hk => ?_⟩
  · intro b hb
    show b < (s.heap.push _).objs.size
    rw [Heap.size_push]
    simp only [List.mem_cons, List.mem_nil_iff, or_false] at hb
    rcases hb with e | e
    · rw [e]; exact Nat.lt_succ_self _
    · rw [e]; exact Nat.lt_succ_of_lt hlt
  · intro i v hP
    have hi : its[i]? = some v := by simpa using hP
    cases e : ns[i]? with
    | none =>
      exfalso
      have h1 : (ns.map fun n => V.int ((n : Nat) : Int))[i]? = none := by rw [List.getElem?_map, e]; rfl
      rw [Vals.none_of rv h1] at hi
      cases hi
    | some b =>
      have h1 : (ns.map fun n => V.int ((n : Nat) : Int))[i]? = some (V.int b) := by rw [List.getElem?_map, e]; rfl
      obtain ⟨u, hu, ru⟩ := rv.get h1
      rw [hi] at hu
      cases hu
      obtain ⟨t, rfl⟩ := ru
      refine ⟨t, ?_⟩
      show Value.int b t = .int ((ns.getD i 0 : Nat) : Int) t
      rw [List.getD_eq_getElem?_getD, e]
      rfl
  · intro j hj
    rw [hn] at hj
    have h1 := getD_le_sum ns j
    have h2 := sum_take_le ns (j + 1)
    have h3 := preSum_take ns (j + 1) hj
    refine ⟨⟨?_, ?_⟩, ⟨?_, ?_⟩⟩
    · show -(2 ^ 63) ≤ ((ns.getD j 0 : Nat) : Int)
      omega
    · show ((ns.getD j 0 : Nat) : Int) < 2 ^ 63
      omega
    · rw [h3]; omega
    · rw [h3]; omega
  · rw [hn, preSum_take ns _ (Nat.le_refl _), List.take_of_length_le (Nat.le_refl _)]
    refine ⟨.int (ns.sum : Nat), H, ?_, ⟨_, rfl⟩, q⟩
    exact I.kept (h' := h') (t' := tk) fun b o e => hk b o (by
      intro z
      have z' : b = s.heap.objs.size := by simpa using z
      exact absurd (Heap.lt_size e) (by rw [z']; exact Nat.lt_irrefl _)) (Heap.get?_push_of_some _ e)
end
end L2
set_option Elab.async false
set_option linter.all false
set_option maxRecDepth 100000
set_option maxHeartbeats 4000000
namespace L2
open PySem PySem.Spec PyProof.Rows
section
variable {X : Cx} {pins : List (Addr × Obj)} {σ : St} {H : Hp} {s : Shared} {a b : Addr} {kvs more : List (Key × V)} {A : Around} {E : Value → Shared → Prop}
end
section
variable {X : Cx} {o e : Expr} {apos cpos : Pos} {td ty : TE}
end
theorem len0 {us : List Value} (h : us.length = 0) : us = [] := List.eq_nil_of_length_eq_zero h
theorem lenS {us : List Value} {n : Nat} (h : us.length = n + 1) : ∃ a r, us = a :: r ∧ r.length = n := by
  cases us with
  | nil => cases h
  | cons a r => exact ⟨a, r, rfl, Nat.succ.inj h⟩
theorem len1 {us : List Value} (h : us.length = 1) : ∃ a, us = [a] := by
  obtain ⟨a, r, rfl, h'⟩ := lenS h
  exact ⟨a, by rw [len0 h']⟩
theorem len2 {us : List Value} (h : us.length = 2) : ∃ a b, us = [a, b] := by
  obtain ⟨a, r, rfl, h'⟩ := lenS h
  obtain ⟨b, rfl⟩ := len1 h'
  exact ⟨a, b, rfl⟩
theorem len3 {us : List Value} (h : us.length = 3) : ∃ a b c, us = [a, b, c] := by
  obtain ⟨a, r, rfl, h'⟩ := lenS h
  obtain ⟨b, c, rfl⟩ := len2 h'
  exact ⟨a, b, c, rfl⟩
theorem len4 {us : List Value} (h : us.length = 4) : ∃ a b c d, us = [a, b, c, d] := by
  obtain ⟨a, r, rfl, h'⟩ := lenS h
  obtain ⟨b, c, d, rfl⟩ := len3 h'
  exact ⟨a, b, c, d, rfl⟩
end L2
set_option Elab.async false
set_option linter.all false
set_option maxRecDepth 100000
set_option maxHeartbeats 4000000
namespace L2
open PySem PySem.Spec PyProof.Rows
section
variable {X : Cx} {pins : List (Addr × Obj)} {σ : St} {H : Hp} {s : Shared} {E : Value → Shared → Prop} {a : Value}
end
abbrev TH := Addr → Addr → Addr → TS
def PH (X : Cx) (hs : List ExceptHandler) (t : TH) : Prop :=
  ∀ (pins : List (Addr × Obj)) (s : Shared) (σ : St) (H : Hp) (D : Ends) (a C dx T : Addr), Inv X pins σ H s → H a = some (excH a C dx (.ref T)) → H T = some (stn T .none) → t C a dx D σ H →
    wpAny (model X.prog X.w) X.A (handleBy (.ref a) X.env hs) (SP X pins D) X.xe s
@[irreducible] def JH (X : Cx) (hs : List ExceptHandler) (t : TH) : Prop := PH X hs t
theorem JH.of {X : Cx} {hs : List ExceptHandler} {t : TH} (h : PH X hs t) : JH X hs t := by unfold JH; exact h
theorem JH.to {X : Cx} {hs : List ExceptHandler} {t : TH} (h : JH X hs t) : PH X hs t := by unfold JH at h; exact h
section
variable {X : Cx} {f : Str} {e : Expr} {pos : Pos} {ta : TE} {bm : List Value}
end
end L2
set_option Elab.async false
set_option linter.all false
set_option maxRecDepth 100000
set_option maxHeartbeats 4000000
namespace PySem
open PySem.Spec
namespace F
theorem plain_dupd_loop : plainId "dict.update.loop" = true := by decide +kernel
theorem entry_dupd_loop : entryFor table "dict.update.loop" = some Builtin.«dict.update.loop» := entryFor_of_fast (by kernel_rfl)
end F
theorem Heap.DictOf.keepsAt {prog : Program} {w : World} {κ : Type} [DecidableEq κ] {knd : KeyKind prog w κ} {h h' : Heap} {a : Addr} {kvs : List (κ × Value)} (hm : h.DictOf knd a kvs) (k : ∀ o, h.get? a = some o → h'.get? a = some o) : h'.DictOf knd a kvs :=
  let ⟨o, es, ep, ho, r⟩ := hm; ⟨o, es, ep, k o ho, r⟩
section
variable {prog : Program} {w : World} {A : Around} {R : Result → Shared → Prop} {I : Addr} {fp wr : List Addr} {n : Nat} {P : Nat → Value → Prop} {St : Nat → Heap → Prop} {κ : Type} [DecidableEq κ] {knd : KeyKind prog w κ}
def PairIs (knd : KeyKind prog w κ) (h : Heap) (wr : List Addr) (d : Addr) (v : Value) (kv : κ × Value) : Prop := ∃ p o c k, v = .ref p ∧ h.get? p = some o ∧ o.cls = .type "tuple" ∧ o.data = .seq #[k, kv.2] c ∧ knd.is kv.1 k = true ∧ p ∉ wr ∧ p ≠ d
theorem codeAny_dupd_loop (W : Walks prog w A.in1 I fp wr n P St) (kv : Nat → κ × Value) (d : Addr) (hdf : d ∉ fp) (hn : n ≤ 1000) :
    ∀ (k i : Nat) (s : Shared) (t : Tok) (kvs : List (κ × Value)), n - i = k → i ≤ n → St i s.heap → s.heap.DictOf knd d kvs → kvs.length ≤ i → (∀ j v, P j v → PairIs knd s.heap wr d v (kv j)) →
    (∀ h' tk, h'.DictOf knd d (merged kvs (((List.range n).drop i).map kv)) → (∀ b o, b ∉ wr → b ≠ d → s.heap.get? b = some o → h'.get? b = some o) → R (.ok (.ret .none)) { s with heap := h', toks := tk }) →
    codeAny (model prog w) A (.builtin "dict.update.loop" ⟨[.ref d, .ref I, .int i t, .none], []⟩) R s := by
  have hdw : d ∉ wr := fun h => hdf (W.sub _ h)
  intro k
  induction k with
  | zero =>
    intro i s t kvs hk hi hst hd hl hp hR
    have hin : i = n := by omega
    subst hin
    refine codeAny_builtin F.entry_dupd_loop ?_
    rw [Around.under_plainId F.plain_dupd_loop _]
    show wpAny _ A.in1 (pyNext (.ref I) >>= _) _ _ s
    refine wpAny_bind (W.done s _ _ hst fun h' tk hk' => ?_)
    show wpAny _ A.in1 (Builtin.Dict.addKeywords d [] >>= _) _ _ _
    refine wpAny_bind (wpAny_pure (wpAny_pure (hR h' tk ?_ fun b o hb _ e => hk' b o hb e)))
    rw [List.drop_of_length_le (by simp)]
    exact hd.keepsAt fun o e => hk' d o hdw e
  | succ k ih =>
    intro i s t kvs hk hi hst hd hl hp hR
    have hlt : i < n := by omega
    refine codeAny_builtin F.entry_dupd_loop ?_
    rw [Around.under_plainId F.plain_dupd_loop _]
    show wpAny _ A.in1 (pyNext (.ref I) >>= _) _ _ s
    refine wpAny_bind (W.item i s _ _ hlt hst fun v h' tk hP hst' hk' => ?_)
    obtain ⟨p, o, c, key, rfl, ho, hc, hdat, hkey, hpw, hpd⟩ := hp i v hP
    have ho' := hk' p o hpw ho
    have hd' : h'.DictOf knd d kvs := hd.keepsAt fun o e => hk' d o hdw e
    have ty : (⟨h', s.gens, s.drawn, tk, s.os⟩ : Shared).TypeIs (.ref p) "tuple" := ⟨o, ho', hc⟩
    refine wpAny_bind (wpAny_holding (wpAny_bind (wpAny_tryCatch ?_)))
    unfold Builtin.Dict.pairItems
    refine wpAny_bind (wpAny_typeOf ty ?_)
    rw [if_pos (by decide)]
    refine wpAny_bind (wpAny_seqItems ho' hdat (wpAny_pure ?_))
    refine (show wpAny _ _ (holding [key, (kv i).2] (dictSet d key (kv i).2)) _ _ _ from wpAny_holding (wpAny_dictSet_pairs hkey hd' (fun h'' dd hs => ?_) (by rw [sizeLine_eq]; omega)))
    refine wpAny_pure ⟨plainId_quiet F.plain_dupd_loop _, ?_⟩
    have keep : ∀ b o, b ∉ wr → b ≠ d → s.heap.get? b = some o → h''.get? b = some o := fun b o hb hbd e => (hs.2 b hbd).trans (hk' b o hb e)
    have len : (stored kvs (kv i).1 (kv i).2).length ≤ i + 1 := by
      have := stored_length_le kvs (kv i).1 (kv i).2
      omega
    refine ih (i + 1) _ _ (stored kvs (kv i).1 (kv i).2) (by omega) hlt (W.frame _ _ _ hst' fun b hb o e => (hs.2 b (fun z => hdf (z ▸ hb))).trans e) dd len (fun j v hj => ?_) fun h3 tk3 d3 k3 => ?_
    · obtain ⟨p, o, c, k, e1, e2, r⟩ := hp j v hj
      exact ⟨p, o, c, k, e1, keep p o r.2.2.2.1 r.2.2.2.2 e2, r⟩
    · refine hR h3 tk3 ?_ fun b o hb hbd e => k3 b o hb hbd (keep b o hb hbd e)
      have e : (List.range n).drop i = i :: (List.range n).drop (i + 1) := by
        rw [List.drop_eq_getElem_cons (by simpa using hlt)]
        simp
      rw [e]
      exact d3
end
section
variable {prog : Program} {w : World} {A : Around} {E : Value → Shared → Prop} {s : Shared} {κ : Type} [DecidableEq κ] {knd : KeyKind prog w κ}
theorem lk_list_keys : typeLookup (.type "list") "keys" = pure none := by rw [typeLookup_type, builtinLookup_eq_fast]; kernel_rfl
theorem keys_of_list {a : Addr} {o : Obj} {xs : Array Value} {k : Nat} {Q : Option Value → Shared → Prop} (hx : s.heap.get? a = some o) (hc : o.cls = .type "list") (hdat : o.data = .seq xs k) (hd : o.dict = none) (hA : A.handled = none)
    (h : ∀ h' tk, (∀ b o, s.heap.get? b = some o → h'.get? b = some o) → Q none { s with heap := h', toks := tk }) : wpAny (model prog w) A (getAttr? (.ref a) "keys") Q E s := by
  obtain ⟨c, dct, dat, sl⟩ := o
  simp only at hc hdat hd
  subst hc hdat hd
  obtain ⟨hp, g, d, tk, os⟩ := s
  have hT : ∀ tk', (⟨hp, g, d, tk', os⟩ : Shared).TypeIs (.ref a) "list" := fun _ => ⟨_, hx, rfl⟩
  have f1 := sub_AttributeError
  have f3 := F.slot_list_getattribute.lookup
  have f4 := F.slot_list_getattribute.bind (.ref a)
  have f5 := am_list_getattr_none
  unfold getAttr? getAttrBy? getAttrBy
  repeat (any_goals (first | assumption | exact hT _ | ((with_reducible show wpAny _ _ (call (Value.builtin "list.__getattribute__") _ _) _ _ _); refine call_meets F.slot_list_getattribute (hT _) am_entry_list_getattribute (F.args_list_getattribute_2 _ _) (meets_getattribute_miss_list a xs k sl "keys" _ lk_list_keys (by decide +kernel)) ⟨hx, hA, fun h' tk' e hx' => ?_⟩) | wp_step))
  obtain ⟨t', u', he⟩ := hx'.there
  show wpAny _ _ (getattributeRaised _ _ _ _ _ _ _) _ _ _
  unfold getattributeRaised
  repeat (any_goals (first | assumption | wp_step))
  exact h _ _ hx'.of.keeps
theorem call_dict_pairs {src : Addr} {items : Array Value} {kv : Nat → κ × Value} {Q : Value → Shared → Prop} (pl : PlainL s.heap src items) (hp : ∀ j v, items[j]? = some v → ∃ p o c key, v = .ref p ∧ s.heap.get? p = some o ∧ o.cls = .type "tuple" ∧ o.data = .seq #[key, (kv j).2] c ∧ knd.is (kv j).1 key = true)
    (hn : items.size ≤ 1000) (hA : A.handled = none)
    (h : ∀ h' tk, h'.DictOf knd s.heap.objs.size (merged [] ((List.range items.size).map kv)) → (∀ b o, s.heap.get? b = some o → h'.get? b = some o) → Q (.ref s.heap.objs.size) { s with heap := h', toks := tk }) :
    wpAny (model prog w) A (call (.type "dict") [.ref src]) Q E s := by
  refine callType_codes (Q₁ := fun obj s₁ => obj = .ref s.heap.objs.size ∧ s₁ = { s with heap := s.heap.push { cls := .type "dict", data := .dict #[] } }) F.kt_called_dict (F.kt_typeCall_dict_1 _) F.entry_dict_init (kt_code_dict_new _ ⟨rfl, rfl⟩) ?_
  rintro obj s₁ ⟨rfl, rfl⟩
  have hnew : (s.heap.push { cls := .type "dict", data := .dict #[] }).DictOf knd s.heap.objs.size [] := Heap.DictOf.new s.heap
  have hp0 : ∀ b o, s.heap.get? b = some o → (s.heap.push { cls := .type "dict", data := .dict #[] }).get? b = some o := fun b o e => Heap.get?_push_of_some _ e
  obtain ⟨ol, nl, ho, hc, hd, hdat⟩ := id pl
  have ty : (⟨s.heap.push { cls := .type "dict", data := .dict #[] }, s.gens, s.drawn, s.toks, s.os⟩ : Shared).TypeIs (.ref src) "list" := ⟨ol, hp0 _ _ ho, hc⟩
  refine ⟨hnew.typeIs, F.args_dict_init_2 _ _, ?_⟩
  unfold Builtin.«dict.__init__»
  refine wpAny_bind ?_
  unfold Builtin.Dict.selfAndRest
  refine wpAny_bind (wpAny_notOrdered_dict hnew.typeIs ?_)
  show wpAny _ _ (pure (s.heap.objs.size, [Value.ref src])) _ _ _
  refine wpAny_pure ?_
  show wpAny _ _ (Builtin.Dict.updateFrom "dict.__init__" s.heap.objs.size (.ref src) [] .none) _ _ _
  unfold Builtin.Dict.updateFrom
  refine wpAny_bind (wpAny_typeOf ty ?_)
  rw [if_pos (by decide)]
  refine wpAny_bind (keys_of_list (hp0 _ _ ho) hc hdat hd hA fun h1 tk1 k1 => ?_)
  rw [if_pos (show (none : Option Value).isNone = true from rfl)]
  refine wpAny_bind (wpAny_rule ?_)
  have pl1 : PlainL h1 src items := ⟨ol, nl, k1 _ _ (hp0 _ _ ho), hc, hd, hdat⟩
  have hlt : src < h1.objs.size := Heap.lt_size (k1 _ _ (hp0 _ _ ho))
  have hnew1 : h1.DictOf knd s.heap.objs.size [] := hnew.keepsAt fun o e => k1 _ o e
  have hld : s.heap.objs.size < h1.objs.size := by
    obtain ⟨o, _, _, e, _⟩ := hnew1
    exact Heap.lt_size e
  refine wpAny_bind (wpAny_pyIter_list pl1.isList ?_)
  refine wpAny_pure ⟨plainId_quiet F.plain_dupd_loop _, ?_⟩
  have W := Walks.list (prog := prog) (w := w) (A := A.in1.in1) hA h1.objs.size src (Nat.ne_of_lt hlt) items
  have nsrc : s.heap.objs.size ≠ src := Ne.symm (Nat.ne_of_lt (Heap.lt_size ho))
  refine codeAny_dupd_loop (A := A.in1) W kv s.heap.objs.size (by simp only [List.mem_cons, List.mem_nil_iff, or_false, not_or]; exact ⟨Nat.ne_of_lt hld, nsrc⟩) hn items.size 0 _ _ [] (by omega) (Nat.zero_le _)
    ⟨⟨_, Heap.get?_push_size _ rfl, rfl, rfl⟩, pl1.isList.at fun o e => Heap.get?_push_of_some _ e⟩ (hnew1.push _) (Nat.zero_le _) (fun j v hj => ?_) fun h2 tk2 d2 k2 => ⟨rfl, h h2 tk2 d2 fun b o e => ?_⟩
  · obtain ⟨p, o, c, key, e1, e2, e3, e4, e5⟩ := hp j v hj
    have e2' := k1 _ _ (hp0 _ _ e2)
    refine ⟨p, o, c, key, e1, Heap.get?_push_of_some _ e2', e3, e4, e5, ?_, Nat.ne_of_lt (Heap.lt_size e2)⟩
    simp only [List.mem_cons, List.mem_nil_iff, or_false]
    exact Nat.ne_of_lt (Heap.lt_size e2')
  · have e' := k1 _ _ (hp0 _ _ e)
    refine k2 b o ?_ (Nat.ne_of_lt (Heap.lt_size e)) (Heap.get?_push_of_some _ e')
    simp only [List.mem_cons, List.mem_nil_iff, or_false]
    exact Nat.ne_of_lt (Heap.lt_size e')
end
end PySem
namespace L2
open PySem PySem.Spec PyProof.Rows
section
variable {X : Cx} {pins : List (Addr × Obj)} {σ : St} {H : Hp} {s : Shared}
def rDictP (K : PySem.W.Frag) : List V → Hp → VK → Prop := fun xs H Q => ∃ (p : Addr) (ps : List Addr) (kvs : List (Key × V)), xs = [.ref p] ∧ SqL K H p (ps.map V.ref) ∧ ps.length = kvs.length ∧ (∀ (i : Nat) (a : Addr) (kv : Key × V), ps[i]? = some a → kvs[i]? = some kv → SqT K H a [kV kv.1, kv.2]) ∧ kvs.length ≤ 1000 ∧
  ∀ d, H d = none → Q (.ref d) (upd H d (.dK (mergeK [] kvs)))
theorem pairs_vals (I : Inv X pins σ H s) : ∀ (ps : List Addr) (kvs : List (Key × V)), ps.length = kvs.length → (∀ (i : Nat) (a : Addr) (kv : Key × V), ps[i]? = some a → kvs[i]? = some kv → SqT X.K H a [kV kv.1, kv.2]) →
    ∃ rs : List (Key × Value), KV kvs rs ∧ rs.length = ps.length ∧ ∀ (i : Nat) (a : Addr), ps[i]? = some a → ∃ kv o c key, rs[i]? = some kv ∧ s.heap.get? a = some o ∧ o.cls = .type "tuple" ∧ o.data = .seq #[key, kv.2] c ∧ (mixKind X.prog X.w).is kv.1 key = true
  | [], [], _, _ => ⟨[], .nil, rfl, fun i a e => by simp at e⟩
  | [], _ :: _, h, _ => by cases h
  | _ :: _, [], h, _ => by cases h
  | a :: ps, kv :: kvs, h, k => by
    obtain ⟨rs, r1, r2, r3⟩ := pairs_vals I ps kvs (Nat.succ.inj h) fun i a' kv' e1 e2 => k (i + 1) a' kv' (by simpa using e1) (by simpa using e2)
    obtain ⟨its, rv, ⟨o, e, c1, n1, d1⟩, _⟩ := I.tuple (k 0 a kv rfl rfl)
    cases rv with
    | cons ra rt =>
      cases rt with
      | cons rb rn =>
        cases rn
        rename_i u1 u2
        refine ⟨(kv.1, u2) :: rs, .cons ⟨rfl, rb⟩ r1, by simp [r2], fun i a' e' => ?_⟩
        cases i with
        | zero =>
          cases e'
          exact ⟨_, o, n1, u1, rfl, e, c1, d1, kV_is ra⟩
        | succ i => exact r3 i a' (by simpa using e')
theorem call_dictP (hc : X.calm = true) : CallR X (.type "dict") (rDictP X.K) := by
  intro pins s σ H xs us Q I r h
  obtain ⟨p, ps, kvs, rfl, hl, le, hps, hz, q⟩ := h
  obtain ⟨u, rfl, ru⟩ := vals1 r
  cases ru
  obtain ⟨its, rv, pl, _⟩ := I.list hl
  obtain rfl := vals_refs rv
  obtain ⟨rs, r1, r2, r3⟩ := pairs_vals I ps kvs le hps
  have hsz : (ps.map Value.ref).toArray.size = rs.length := by simp [r2]
  have hR : (List.range (ps.map Value.ref).toArray.size).map (fun j => (rs[j]?).getD (Sum.inl 0, Value.none)) = rs := by
    rw [hsz]
    refine List.ext_getElem? fun i => ?_
    rw [List.getElem?_map]
    by_cases hi : i < rs.length
    · rw [List.getElem?_range hi, List.getElem?_eq_getElem hi]
      simp [hi]
    · rw [List.getElem?_eq_none (by rw [List.length_range]; omega), List.getElem?_eq_none (by omega)]
      rfl
  refine call_dict_pairs (knd := mixKind X.prog X.w) (kv := fun j => (rs[j]?).getD (Sum.inl 0, Value.none)) pl (fun j v hj => ?_) (by rw [hsz, r2, le]; exact hz) (I.ok.hd hc) fun h' tk dd kp => ?_
  · have hj' : (ps.map Value.ref)[j]? = some v := by simpa using hj
    rw [List.getElem?_map] at hj'
    cases e : ps[j]? with
    | none => rw [e] at hj'; cases hj'
    | some a =>
      rw [e] at hj'
      obtain ⟨kv, o, c, key, f1, f2, f3, f4, f5⟩ := r3 j a e
      refine ⟨a, o, c, key, (Option.some.inj hj').symm, f2, f3, ?_, ?_⟩
      · show o.data = .seq #[key, ((rs[j]?).getD (Sum.inl 0, Value.none)).2] c
        rw [f1]
        exact f4
      · show (mixKind X.prog X.w).is ((rs[j]?).getD (Sum.inl 0, Value.none)).1 key = true
        rw [f1]
        exact f5
  · rw [hR] at dd
    have hn := I.hok.fresh (Nat.le_refl s.heap.objs.size)
    have big : (s.heap.objs.size == sysModules) = false := beq_eq_false_iff_ne.mpr (Ne.symm (Nat.ne_of_lt I.big))
    have hlen : (mergeK [] kvs).length ≤ sizeLine := by
      have := length_mergeK kvs []
      rw [List.length_nil] at this
      rw [sizeLine_eq]
      omega
    exact ⟨.ref s.heap.objs.size, _, I.laid (a := s.heap.objs.size) (o := .dK (mergeK [] kvs)) (h' := h') (t' := tk) kp (Nat.le_refl _) (dk_new hlen big (r1.merge .nil) dd), rfl, q _ hn⟩
end
end L2
set_option Elab.async false
set_option linter.all false
set_option maxRecDepth 100000
set_option maxHeartbeats 4000000
namespace L2
open PySem PySem.Spec PySem.W PyProof.Rows
theorem nd_inj {α : Type} {l : List α} (nd : l.Nodup) {i j : Nat} {hi : i < l.length} {hj : j < l.length} (e : l[i] = l[j]) : i = j := by
  have h := List.pairwise_iff_getElem.mp nd
  rcases Nat.lt_trichotomy i j with c | c | c
  · exact absurd e (h i j hi hj c)
  · exact c
  · exact absurd e.symm (h j i hj hi c)
section
variable {α β : Type} {lt : Nat → Nat → Bool} {n : Nat}
def evT (lt : Nat → Nat → Bool) : KasT α → α
  | .ret a => a
  | .ask i j k => evT lt (k (lt i j))
def AskT (lt : Nat → Nat → Bool) (n : Nat) : KasT α → (α → Prop) → Prop
  | .ret a, R => R a
  | .ask i j k, R => (i < n ∧ j < n ∧ i ≠ j) ∧ AskT lt n (k (lt i j)) R
theorem AskT.bind {f : α → KasT β} {R : β → Prop} : ∀ (t : KasT α), AskT lt n t (fun a => AskT lt n (f a) R) → AskT lt n (t.bind f) R
  | .ret _, h => h
  | .ask _ _ k, h => ⟨h.1, AskT.bind (k _) h.2⟩
theorem AskT.out {R : α → Prop} : ∀ (t : KasT α), AskT lt n t R → R (evT lt t)
  | .ret _, h => h
  | .ask _ _ k, h => AskT.out (k _) h.2
theorem AskT.wp {cmp : Nat → Nat → (Bool → Shared → Prop) → Shared → Prop} {z : Shared} {R : α → Prop} {Q : α → Shared → Prop} (hc : ∀ i j, i < n → j < n → i ≠ j → ∀ C : Bool → Shared → Prop, C (lt i j) z → cmp i j C z) :
    ∀ (t : KasT α), AskT lt n t R → Q (evT lt t) z → t.kasWp cmp Q z
  | .ret _, _, q => q
  | .ask i j k, h, q => hc i j h.1.1 h.1.2.1 h.1.2.2 _ (AskT.wp hc (k _) h.2 q)
def Gd (n : Nat) (p : Array Nat) : Prop := p.toList.Perm (List.range n)
theorem Gd.size {p : Array Nat} (g : Gd n p) : p.size = n := by
  have := g.length_eq
  rwa [List.length_range, Array.length_toList] at this
theorem Gd.at_ {p : Array Nat} (g : Gd n p) {a : Nat} (h : a < n) : ∃ h' : a < p.toList.length, p.getD a 0 = p.toList[a] := by
  have e := g.size
  refine ⟨by rw [Array.length_toList]; omega, ?_⟩
  simp [Array.getD, show a < p.size by omega]
theorem Gd.ask {p : Array Nat} (g : Gd n p) {a b : Nat} (ha : a < n) (hb : b < n) (ne : a ≠ b) : p.getD a 0 < n ∧ p.getD b 0 < n ∧ p.getD a 0 ≠ p.getD b 0 := by
  obtain ⟨a', ea⟩ := g.at_ ha
  obtain ⟨b', eb⟩ := g.at_ hb
  rw [ea, eb]
  refine ⟨List.mem_range.mp (g.mem_iff.mp (List.getElem_mem a')), List.mem_range.mp (g.mem_iff.mp (List.getElem_mem b')), fun e => ne ?_⟩
  have nd : p.toList.Nodup := g.nodup_iff.mpr List.nodup_range
  exact nd_inj nd e
theorem Gd.rev {p : Array Nat} (g : Gd n p) (i j : Nat) : Gd n (kas_rev p i j) := (Array.perm_iff_toList_perm.mp (mirror_perm p i j _)).trans g
theorem Gd.bub {p : Array Nat} (g : Gd n p) (i j : Nat) : Gd n (bubble p i j) := (Array.perm_iff_toList_perm.mp (bubble_perm p i j)).trans g
theorem pt_asc {p : Array Nat} (g : Gd n p) {R : Nat → Prop} : ∀ (f a : Nat), 1 ≤ a → a + f ≤ n → (∀ m, 1 ≤ m → m ≤ a + f → R m) → AskT lt n (kas_asc p f a) R
  | 0, a, h1, _, hR => hR a h1 (Nat.le_refl _)
  | f + 1, a, h1, h2, hR => by
    refine ⟨g.ask (by omega) (by omega) (by omega), ?_⟩
    show AskT lt n (if lt _ _ = true then .ret a else kas_asc p f (a + 1)) R
    split
    · exact hR a h1 (by omega)
    · exact pt_asc g f (a + 1) (by omega) (by omega) fun m m1 m2 => hR m m1 (by omega)
theorem pt_desc {R : Array Nat × Nat × Nat → Prop} : ∀ (f : Nat) (p : Array Nat) (a q : Nat), Gd n p → 1 ≤ a → a + f ≤ n → (∀ p' m q', Gd n p' → 1 ≤ m → m ≤ a + f → R (p', m, q')) → AskT lt n (kas_desc f p a q) R
  | 0, p, a, q, g, h1, _, hR => hR p a q g h1 (Nat.le_refl _)
  | f + 1, p, a, q, g, h1, h2, hR => by
    have nx : ∀ (p' : Array Nat) (q' : Nat), Gd n p' → AskT lt n (kas_desc f p' (a + 1) q') R := fun p' q' g' => pt_desc f p' (a + 1) q' g' (by omega) (by omega) fun p'' m q'' g'' m1 m2 => hR p'' m q'' g'' m1 (by omega)
    refine ⟨g.ask (by omega) (by omega) (by omega), ?_⟩
    show AskT lt n (if lt _ _ = true then (if q > 0 then _ else _) else _) R
    split
    · split
      · exact nx _ _ (g.rev _ _)
      · exact nx _ _ g
    · refine ⟨g.ask (by omega) (by omega) (by omega), ?_⟩
      show AskT lt n (if lt _ _ = true then _ else _) R
      split
      · exact hR p a q g h1 (by omega)
      · exact nx _ _ g
theorem pt_tail3 {p : Array Nat} (g : Gd n p) {m : Nat} (h1 : 1 ≤ m) (h2 : m ≤ n) {R : Nat × Array Nat → Prop} (hR : ∀ m' p', Gd n p' → R (m', p')) : AskT lt n (kas_tail3 m n p) R :=
  AskT.bind _ (pt_asc (g.rev 0 m) _ _ h1 (by omega) fun m' _ _ => hR m' _ (g.rev 0 m))
theorem pt_descPart {p : Array Nat} (g : Gd n p) {m : Nat} (h1 : 1 ≤ m) (h2 : m + 1 ≤ n) {R : Nat × Array Nat → Prop} (hR : ∀ m' p', Gd n p' → R (m', p')) : AskT lt n (kas_descPart m n p) R := by
  refine AskT.bind _ (pt_desc _ p (m + 1) 0 g (by omega) (by omega) fun p' m' q' g' a1 a2 => ?_)
  show AskT lt n (if q' > 0 then _ else _) R
  split
  · exact pt_tail3 (g'.rev _ _) a1 (by omega) hR
  · exact pt_tail3 g' a1 (by omega) hR
theorem pt_count {p : Array Nat} (g : Gd n p) (h2 : 1 ≤ n) {R : Nat × Array Nat → Prop} (hR : ∀ m' p', Gd n p' → R (m', p')) : AskT lt n (kas_count n p) R := by
  refine AskT.bind _ (pt_asc g _ 1 (Nat.le_refl _) (by omega) fun m m1 m2 => ?_)
  show AskT lt n (if (m == n) = true then _ else if m > 1 then _ else _) R
  split
  · exact hR _ _ g
  · next e =>
    have ne : m ≠ n := fun z => e (beq_iff_eq.mpr z)
    split
    · refine ⟨g.ask (by omega) (by omega) (by omega), ?_⟩
      show AskT lt n (if lt _ _ = true then _ else _) R
      split
      · exact hR _ _ g
      · exact pt_descPart (g.rev _ _) m1 (by omega) hR
    · exact pt_descPart g m1 (by omega) hR
theorem pt_place {p : Array Nat} (g : Gd n p) {k : Nat} (hk : k < n) {R : Nat → Prop} (hR : ∀ l, R l) : ∀ (f l r : Nat), r ≤ k → AskT lt n (kas_place p k f l r) R
  | 0, l, r, _ => hR l
  | f + 1, l, r, h => by
    show AskT lt n (if l ≥ r then _ else _) R
    split
    · exact hR l
    · refine ⟨g.ask hk (by omega) (by omega), ?_⟩
      show AskT lt n (if lt _ _ = true then _ else _) R
      split
      · exact pt_place g hk hR f _ _ (by omega)
      · exact pt_place g hk hR f _ _ h
theorem pt_bin {R : Array Nat → Prop} (hR : ∀ p, Gd n p → R p) : ∀ (f : Nat) (p : Array Nat) (k : Nat), Gd n p → k + f ≤ n → AskT lt n (kas_bin f p k) R
  | 0, p, k, g, _ => hR p g
  | f + 1, p, k, g, h => AskT.bind _ (pt_place g (by omega) (fun l => pt_bin hR f _ (k + 1) (g.bub _ _) (by omega)) _ _ _ (Nat.le_refl _))
theorem pt_sort (h : 1 ≤ n) : AskT lt n (kas_sort n) (Gd n) := by
  refine AskT.bind _ (pt_count (p := List.toArray (List.range n)) (List.Perm.refl _) h fun m p g => ?_)
  show AskT lt n (if m < n then _ else _) _
  split
  · exact pt_bin (fun _ g => g) _ _ _ g (by omega)
  · exact g
end
def ltS (zs : List Str) (i j : Nat) : Bool := decide ((zs.getD i "").cps.toList < (zs.getD j "").cps.toList)
def srt (zs : List Str) : List Nat := if zs.length < 2 then List.range zs.length else (evT (ltS zs) (kas_sort zs.length)).toList
theorem srt_perm (zs : List Str) : (srt zs).Perm (List.range zs.length) := by
  unfold srt
  split
  · exact List.Perm.refl _
  · exact AskT.out _ (pt_sort (by omega))
def NamAt (h : Heap) (v : Value) (x : Str) : Prop := ∃ p o n t y, v = .ref p ∧ h.get? p = some o ∧ o.cls = .type "tuple" ∧ o.data = .seq #[.str x t, y] n
theorem NamAt.keep {h h' : Heap} {v : Value} {k : Str} (x : NamAt h v k) (kp : ∀ b o, h.get? b = some o → o.cls = .type "tuple" → h'.get? b = some o) : NamAt h' v k := by
  obtain ⟨p, o, n, t, u, e, h1, c, d⟩ := x
  exact ⟨p, o, n, t, u, e, kp p o h1 c, c, d⟩
section
variable {P : Program} {w : World} {B : Around} {F : Value → Shared → Prop} {z : Shared}
end
section
variable {X : Cx} {o : Expr} {td : TE} {p1 p2 pos1 pos2 ap cp : Pos}
end
section
variable {X : Cx}
def rAddL (K : PySem.W.Frag) : R2 := fun x y H Q => ∃ a b xs ys, x = .ref a ∧ y = .ref b ∧ SqL K H a xs ∧ SqL K H b ys ∧ xs.length + ys.length ≤ sizeLine ∧ ∀ l, H l = none → Q (.ref l) (upd H l (.lst (xs ++ ys)))
theorem Paired.app {α β : Type} {G : α → β → Prop} : ∀ {l m : List α} {l' m' : List β}, Paired G l l' → Paired G m m' → Paired G (l ++ m) (l' ++ m')
  | _, _, _, _, .nil, h => h
  | _, _, _, _, .cons a r, h => .cons a (Paired.app r h)
theorem op_addL : OpR X (binaryOp .Add) (rAddL X.K) := by
  intro pins s σ H x y v u Q I rx ry h
  obtain ⟨a, b, xs, ys, rfl, rfl, ha, hb, hz, q⟩ := h
  cases rx
  cases ry
  obtain ⟨its, rv, pl, _⟩ := I.list ha
  obtain ⟨its2, rv2, pl2, _⟩ := I.list hb
  have l1 := rv.length
  have l2 := rv2.length
  obtain ⟨⟨cls, dd, data, sl⟩, ho, hc, n, hd⟩ := id pl.isList
  obtain ⟨⟨cls2, dd2, data2, sl2⟩, ho2, hc2, n2, hd2⟩ := id pl2.isList
  simp only at hc hd hc2 hd2
  subst hc hd hc2 hd2
  have e : its.toArray ++ its2.toArray = (its ++ its2).toArray := by simp
  refine concat_meets ⟨_, ho, rfl⟩ ⟨_, ho2, rfl⟩ noFill_list_add seq_list_add PySem.F.slot_list_add PySem.F.entry_list_add (PySem.F.args_list_add_2 _ _) (list_addW a b its.toArray its2.toArray n n2 dd dd2 sl sl2 (by simp only [List.size_toArray]; omega)) ⟨ho, ho2, ?_⟩
  rw [e]
  exact ⟨.ref s.heap.objs.size, _, I.laid (t' := s.toks) (o := .lst (xs ++ ys)) (fun b u h => Heap.get?_push_of_some _ h) (Nat.le_refl _) ⟨by rw [List.length_append]; exact hz, its ++ its2, _, Paired.app rv rv2, Heap.get?_push_size _ rfl⟩, rfl, q _ (I.hok.fresh (Nat.le_refl _))⟩
end
end L2
set_option Elab.async false
set_option linter.all false
set_option maxRecDepth 100000
set_option maxHeartbeats 4000000
namespace L2
open PySem PySem.Spec PySem.W PyProof.Rows
section
variable {X : Cx}
def rListD : List V → Hp → VK → Prop := fun xs H Q => ∃ (a : Addr) (kvs : List (Key × V)) (zs : List Str), xs = [.ref a] ∧ H a = some (.dK kvs) ∧ kvs.map (·.1) = zs.map Sum.inr ∧ ∀ l, H l = none → Q (.ref l) (upd H l (.lst (zs.map V.str)))
theorem call_listD (hc : X.calm = true) : CallR X (.type "list") rListD := by
  intro pins s σ H xs us Q I r h
  obtain ⟨a, kvs, zs, rfl, ea, ek, q⟩ := h
  obtain ⟨u, rfl, ru⟩ := vals1 r
  cases ru
  obtain ⟨zk, hd, vs, rel, dd⟩ := dk_of I.hok ea
  obtain ⟨ep, dat⟩ := dd.dictAt
  have lk : kvs.length = zs.length := by simpa using congrArg List.length ek
  have lv : kvs.length = vs.length := Paired.length rel
  refine kdl_call (kdl_dict (knd := mixKind X.prog X.w) (kvs := vs) (ep := ep) hd) (I.ok.hd hc) dat (by rw [← lv]; exact zk) fun h' tk acc c kp e it => ?_
  have vv : Vals (zs.map V.str) acc.toList := by
    refine paired_of _ _ (by have := it.1; simp only [List.length_map, Array.length_toList]; omega) fun i x u e1 e2 => ?_
    have e2' : acc[i]? = some u := by simpa using e2
    obtain ⟨k, y, f1, f2⟩ := it.2 i u e2'
    rw [List.getElem?_map] at e1
    cases ez : zs[i]? with
    | none => rw [ez] at e1; cases e1
    | some z =>
      rw [ez] at e1
      obtain rfl := (Option.some.inj e1).symm
      have hi : i < kvs.length := by
        have := (List.getElem?_eq_some_iff.mp ez).1
        omega
      obtain ⟨q', g1, g2, _⟩ := paired_get rel (List.getElem?_eq_getElem hi)
      rw [f1] at g1
      cases g1
      have h1 : (kvs.map (·.1))[i]? = some kvs[i].1 := by rw [List.getElem?_map, List.getElem?_eq_getElem hi]; rfl
      rw [ek, List.getElem?_map, ez] at h1
      have e3 : k = Sum.inr z := g2.symm.trans (Option.some.inj h1).symm
      subst e3
      rcases keyIs_shape (show keyIs (Sum.inr z) u = true from f2) with ⟨_, _, c, _⟩ | ⟨w', t, c, rfl⟩
      · cases c
      · cases c
        exact ⟨t, rfl⟩
  exact ⟨.ref _, _, I.laid (t' := tk) (o := .lst (zs.map V.str)) kp (Nat.le_refl _) ⟨by rw [List.length_map, ← lk]; exact zk, acc.toList, c, vv, by simpa using e⟩, rfl, q _ (I.hok.fresh (Nat.le_refl _))⟩
def rEqDN : R2 := fun x y H Q => ∃ (a b : Addr) (kvs : List (Key × V)), x = .ref a ∧ y = .ref b ∧ H a = some (.dK kvs) ∧ H b = some (.dK []) ∧ Q (.bl kvs.isEmpty) H
theorem op_eqDN (hu : X.A.units < cLine) : OpR X (compareOp .Eq) rEqDN := by
  intro pins s σ H x y v u Q I rx ry h
  obtain ⟨a, b, kvs, rfl, rfl, ea, eb, q⟩ := h
  cases rx
  cases ry
  obtain ⟨_, hda, va, ra, da⟩ := dk_of I.hok ea
  obtain ⟨_, hdb, vb, rb, db⟩ := dk_of I.hok eb
  have lb : vb = [] := List.eq_nil_of_length_eq_zero (Paired.length rb).symm
  subst lb
  refine keq_eq (r := true) hda hdb da db hu (fun e => ?_) ⟨.bl _, H, I, ?_, q⟩
  · have : va = [] := List.eq_nil_of_length_eq_zero e
    subst this
    exact .nil
  · show Value.bool _ = Value.bool _
    have l := Paired.length ra
    cases kvs with
    | nil =>
      have : va = [] := List.eq_nil_of_length_eq_zero l.symm
      subst this
      rfl
    | cons p r =>
      cases va with
      | nil => cases l
      | cons p' r' => rfl
def rNeLN (K : PySem.W.Frag) : R2 := fun x y H Q => ∃ (a b : Addr) (xs : List V), x = .ref a ∧ y = .ref b ∧ SqL K H a xs ∧ SqL K H b [] ∧ Q (.bl (!xs.isEmpty)) H
theorem op_neLN (hu : X.A.units < cLine) : OpR X (compareOp .NotEq) (rNeLN X.K) := by
  intro pins s σ H x y v u Q I rx ry h
  obtain ⟨a, b, xs, rfl, rfl, ha, hb, q⟩ := h
  cases rx
  cases ry
  obtain ⟨its, rv, pl, _⟩ := I.list ha
  obtain ⟨its2, rv2, pl2, _⟩ := I.list hb
  have l2 : its2 = [] := List.eq_nil_of_length_eq_zero rv2.length.symm
  subst l2
  cases xs with
  | nil =>
    have l1 : its = [] := List.eq_nil_of_length_eq_zero rv.length.symm
    subst l1
    exact EqBoolInt.of_rcne (SeqAt.RcNeAt.lists (e := fun _ => true) pl.isList pl2.isList rfl hu fun j h1 h2 => absurd h1 (Nat.not_lt_zero j)) ⟨.bl _, H, I, rfl, q⟩
  | cons x xs =>
    cases its with
    | nil => cases rv
    | cons u' us' => exact EqBoolInt.of_rcne (SeqAt.RcNeAt.lists_lengths pl.isList pl2.isList (by simp) hu) ⟨.bl true, H, I, rfl, q⟩
def rIndex (K : PySem.W.Frag) : V → List V → Hp → VK → Prop := fun x xs H Q => ∃ (a : Addr) (zs : List Str) (z : Str) (j : Nat), x = .ref a ∧ xs = [.str z] ∧ SqL K H a (zs.map V.str) ∧ zs[j]? = some z ∧ (∀ i, i < j → zs[i]? ≠ some z) ∧ Q (.int (j : Nat)) H
theorem mt_index : MtR X "list.index" (rIndex X.K) := by
  intro pins s σ H x xs v us Q I rx rs h
  obtain ⟨a, zs, z, j, rfl, rfl, hq, ej, hno, q⟩ := h
  cases rx
  obtain ⟨u, rfl, ru⟩ := vals1 rs
  obtain ⟨t, rfl⟩ := ru
  obtain ⟨its, rv, pl, hz⟩ := I.list hq
  have ln : its.length = zs.length := by
    have := rv.length
    rw [List.length_map] at this
    exact this.symm
  have hj : j < zs.length := (List.getElem?_eq_some_iff.mp ej).1
  have str : ∀ i (hi : i < its.toArray.size), ∃ t', its.toArray[i] = .str (zs[i]'(by simp at hi; omega)) t' := fun i hi => by
    have hi' : i < zs.length := by simp at hi; omega
    have h1 : (zs.map V.str)[i]? = some (V.str zs[i]) := by rw [List.getElem?_map, List.getElem?_eq_getElem hi']; rfl
    obtain ⟨w', hw, t', e⟩ := rv.get h1
    refine ⟨t', ?_⟩
    have : its.toArray[i]? = some w' := by simpa using hw
    rw [Array.getElem?_eq_getElem hi] at this
    exact (Option.some.inj this).trans e
  obtain ⟨⟨cls, dd, data, sl⟩, ho, hc, n, hd⟩ := id pl.isList
  simp only at hc hd
  subst hc hd
  have hz' : zs.length ≤ sizeLine := by rwa [List.length_map] at hz
  refine call_meets PySem.F.slot_list_index ⟨_, ho, rfl⟩ PySem.F.entry_list_index (PySem.F.args_list_index_2 _ _) (SeqAt.list_indexAt a its.toArray n dd sl (.str z t) (fun y => match y with | .str x _ => x == z | _ => false) j (by simp; omega) (by rw [sizeLine_eq] at hz'; omega) ?_ ?_) ⟨ho, fun y hy => ?_, ⟨.int _, H, I.tok _, ⟨_, rfl⟩, q⟩⟩
  · obtain ⟨t', e⟩ := str j (by simp; omega)
    rw [e, (List.getElem?_eq_some_iff.mp ej).2]
    exact beq_self_eq_true z
  · intro m hm lt
    obtain ⟨t', e⟩ := str m hm
    rw [e]
    refine beq_eq_false_iff_ne.mpr fun c => hno m lt ?_
    rw [List.getElem?_eq_getElem (by simp at hm; omega), c]
  · obtain ⟨i, hi, rfl⟩ := Array.mem_iff_getElem.mp hy
    obtain ⟨t', e⟩ := str i hi
    rw [e]
    exact SeqAt.EqAt.str_str _ t' z t
end
end L2
set_option Elab.async false
set_option linter.all false
set_option maxRecDepth 100000
set_option maxHeartbeats 4000000
namespace L2
open PySem PySem.Spec PySem.W PyProof.Rows
def wkHeap (h : Heap) (a : Addr) (vs : List Value) : Heap := ((h.update a (Obj.mapSeq fun _ => #[])).push (seqObj "tuple" vs.toArray 0)).push (seqObj "list" #[] 0)
section
variable {P : Program} {w : World} {B : Around} {F : Value → Shared → Prop} {z : Shared}
theorem sort_by {a : Addr} {vs : List Value} {κ : SortKind} {lt : Nat → Nat → Bool} {n : Nat} {ord : List Nat} {R : PySem.Fin → Shared → Prop} (ho : z.heap.get? a = some (seqObj "list" vs.toArray n)) (hz : vs.length < 64)
    (hk : 2 ≤ vs.length → ∀ Q : SortKind → Shared → Prop, Q κ { z with heap := wkHeap z.heap a vs } → wpAny (model P w) B (keyKind' vs.toArray) Q F { z with heap := wkHeap z.heap a vs })
    (ha : ∀ i j, i < vs.length → j < vs.length → i ≠ j → ∀ C : Bool → Shared → Prop, C (lt i j) { z with heap := wkHeap z.heap a vs } → kas_ask P w B κ vs i j C { z with heap := wkHeap z.heap a vs })
    (hord : ord = if vs.length < 2 then List.range vs.length else (evT lt (kas_sort vs.length)).toList)
    (k : R (.done (.ret .none)) { z with heap := sortedHeap z.heap a vs (ord.map fun i => vs.getD i Value.none).toArray }) : wpAny (model P w) B (Builtin.«list.sort» ⟨[.ref a], []⟩) R F z := by
  rw [list_sort_plain]
  refine wpAny_bind (listItems_at ho rfl (wpAny_bind (listUpdate_at ho rfl ?_)))
  obtain ⟨c1, o1⟩ : ∃ c, (z.heap.update a (Obj.mapSeq fun _ => #[])).get? a = some (seqObj "list" #[] c) := ⟨_, get?_update_seq ho (fun _ => #[])⟩
  refine wpAny_bind (seqEpoch_at o1 rfl (wpAny_bind (wpAny_newTuple (wpAny_bind (wpAny_newList (wpAny_holding ?_))))))
  have o2 : (wkHeap z.heap a vs).get? a = some (seqObj "list" #[] c1) := Heap.get?_push_of_some _ (Heap.get?_push_of_some _ o1)
  show wpAny (model P w) B _ R F { z with heap := wkHeap z.heap a vs }
  dsimp only
  have lo : ord.length = vs.length := by
    rw [hord]
    split
    · exact List.length_range
    · have := (AskT.out (lt := lt) _ (pt_sort (n := vs.length) (by omega))).length_eq
      rwa [List.length_range] at this
  have so : ((ord.map fun i => vs.getD i Value.none).toArray).size = vs.length := by
    rw [List.size_toArray, List.length_map]
    exact lo
  have ends : ∀ st : SortSt, (arrOf st).map (·.2) = (ord.map fun i => vs.getD i Value.none).toArray → failedOf st = none → wpAny (model P w) B (do
      let touched := (← seqEpoch a) != c1
      Builtin.List.listUpdate (.ref a) fun _ => (arrOf st).map (·.2)
      if let some e := failedOf st then rule "list.sort.comparison-raised"; throw e
      if touched then rule "list.sort.modified"; raiseError "ValueError" "list modified during sort"
      ret .none) R F { z with heap := wkHeap z.heap a vs } := fun st e f => by
    refine wpAny_bind (seqEpoch_at o2 rfl ?_)
    rw [e, f]
    refine wpAny_bind (listUpdate_at o2 rfl ?_ (hsz2 := by rw [so, sizeLine_eq]; omega))
    simp only [bne_self_eq_false, Bool.false_eq_true, if_false]
    exact wpAny_pure k
  have sv : vs.toArray.size = vs.length := by simp
  by_cases h2 : vs.toArray.size < 2
  · rw [if_pos h2, if_pos h2]
    refine wpAny_bind (wpAny_pure ?_)
    rw [StateT.run_pure]
    refine wpAny_bind (wpAny_pure ?_)
    refine ends (SortSt.mk' general' (vs.toArray.zip vs.toArray) #[] 7 none) ((pairs_snd vs).trans ?_) rfl
    rw [hord, if_pos (by omega)]
    congr 1
    refine List.ext_getElem? fun i => ?_
    rw [List.getElem?_map]
    by_cases hi : i < vs.length
    · rw [List.getElem?_range hi]
      simp [hi]
    · rw [List.getElem?_eq_none (by omega), List.getElem?_eq_none (by rw [List.length_range]; omega)]
      rfl
  · rw [if_neg h2, if_neg h2]
    have l2 : 2 ≤ vs.length := by omega
    refine wpAny_bind (hk l2 _ ?_)
    have run : wpAny (model P w) B ((sortRuns').run (SortSt.mk' κ (vs.toArray.zip vs.toArray) #[] 7 none)) (fun r s' => s' = { z with heap := wkHeap z.heap a vs } ∧ (arrOf r.2).map (·.2) = (ord.map fun i => vs.getD i Value.none).toArray ∧ failedOf r.2 = none) F { z with heap := wkHeap z.heap a vs } := by
      refine kat_run (ks := vs) (vs := vs) (κ := κ) (Q := fun st s' => s' = { z with heap := wkHeap z.heap a vs } ∧ (arrOf st).map (·.2) = (ord.map fun i => vs.getD i Value.none).toArray ∧ failedOf st = none)
        (G := fun p s' => s' = { z with heap := wkHeap z.heap a vs } ∧ p = evT lt (kas_sort vs.length)) rfl l2 hz (fun p st' s' hs hp hf' hg => ⟨hg.1, ?_, hf'⟩) ?_
      · rw [kat_snds rfl hp, hg.2, hord, if_neg (by omega)]
      · exact AskT.wp (lt := lt) (n := vs.length) ha _ (pt_sort (by omega)) ⟨rfl, rfl⟩
    refine wpAny_bind (wpAny_mono run (fun r z' h3 => ?_) fun _ _ x => x)
    obtain ⟨⟨⟩, st⟩ := r
    obtain ⟨rfl, e1, e2⟩ := h3
    exact ends st e1 e2
end
section
variable {X : Cx}
def rSortS (K : PySem.W.Frag) : List V → Hp → VK → Prop := fun xs H Q => ∃ (p : Addr) (zs : List Str), xs = [.ref p] ∧ SqL K H p (zs.map V.str) ∧ zs.length < 64 ∧ ∀ l, H l = none → Q (.ref l) (upd H l (.lst ((srt zs).map fun i => V.str (zs.getD i ""))))
theorem call_sortS : CallR X (.builtin "sorted") (rSortS X.K) := by
  intro pins s σ H xs us Q I r h
  obtain ⟨p, zs, rfl, hq, h64, q⟩ := h
  obtain ⟨u, rfl, ru⟩ := vals1 r
  cases ru
  obtain ⟨its, rv, pl, hz⟩ := I.list hq
  have ln : its.length = zs.length := by
    have := rv.length
    rw [List.length_map] at this
    exact this.symm
  have str : ∀ i, i < its.length → ∃ t, its.getD i Value.none = .str (zs.getD i "") t := fun i hi => by
    have hi' : i < zs.length := by omega
    have h1 : (zs.map V.str)[i]? = some (V.str zs[i]) := by rw [List.getElem?_map, List.getElem?_eq_getElem hi']; rfl
    obtain ⟨w', hw, t', e⟩ := rv.get h1
    refine ⟨t', ?_⟩
    rw [List.getD_eq_getElem?_getD, hw, List.getD_eq_getElem?_getD, List.getElem?_eq_getElem hi', e]
    rfl
  refine Calls.call_function_entry kind_sorted plain_sorted entry_sorted (args_sorted1 _) ?_
  unfold Builtin.«sorted»
  refine wpAny_bind (m := checkCount "sorted" 1 1 _) (wpAny_pure ?_)
  refine wpAny_bind (collect_list pl.isList ?_ (by rw [ln, sizeLine_eq]; omega))
  have k1 : ∀ b o, s.heap.get? b = some o → ((s.heap.push (seqObj "list" #[] 0)).update s.heap.objs.size (Obj.mapSeq (· ++ its.toArray))).get? b = some o := fun b o e =>
    (Heap.get?_update_other _ _ (Nat.ne_of_gt (Heap.lt_size e))).trans (Heap.get?_push_of_some _ e)
  have z1 : s.heap.objs.size ≤ ((s.heap.push (seqObj "list" #[] 0)).update s.heap.objs.size (Obj.mapSeq (· ++ its.toArray))).objs.size := by
    have o1 : (s.heap.push (seqObj "list" #[] 0)).get? s.heap.objs.size = some (seqObj "list" #[] 0) := Heap.get?_push_size _ rfl
    exact Nat.le_of_lt (Heap.lt_size (get?_update_seq o1 (· ++ its.toArray)))
  generalize (s.heap.push (seqObj "list" #[] 0)).update s.heap.objs.size (Obj.mapSeq (· ++ its.toArray)) = h1 at k1 z1
  refine wpAny_bind (wpAny_newList ?_)
  show wpAny _ _ _ _ _ { s with heap := h1.push (seqObj "list" its.toArray 0) }
  have oL : (h1.push (seqObj "list" its.toArray 0)).get? h1.objs.size = some (seqObj "list" its.toArray 0) := Heap.get?_push_size _ rfl
  have ord : srt zs = if its.length < 2 then List.range its.length else (evT (ltS zs) (kas_sort its.length)).toList := by rw [ln]; rfl
  refine wpAny_bind (wpAny_holding (wpAny_call_entry slot_list_sort ⟨_, oL, rfl⟩ entry_list_sort (sort_by (κ := oneType') (lt := ltS zs) oL (by rw [ln]; exact h64) (fun l2 Q' k => ?_) (fun i j hi hj _ C hC => ?_) ord ⟨_, rfl, ?_⟩) (args_list_sort _)))
  · refine kas_kind (T := .type "str") l2 (fun v hv => ?_) rfl rfl k
    obtain ⟨i, hi, rfl⟩ := List.getElem_of_mem hv
    obtain ⟨t, e⟩ := str i hi
    have e' : its[i] = .str (zs.getD i "") t := by rw [← e]; simp [hi]
    rw [e']
    exact Looks.of_pure rfl
  · unfold kas_ask
    obtain ⟨t, e⟩ := str i hi
    obtain ⟨t', e'⟩ := str j hj
    rw [e, e']
    exact kas_lt_str hC
  refine wpAny_pure ⟨_, rfl, ?_⟩
  have lne : ∀ b o, h1.get? b = some o → b ≠ h1.objs.size := fun b o e => Nat.ne_of_lt (Heap.lt_size e)
  have kf : ∀ b o, s.heap.get? b = some o → (sortedHeap (h1.push (seqObj "list" its.toArray 0)) h1.objs.size its ((srt zs).map fun i => its.getD i Value.none).toArray).get? b = some o := fun b o e0 => by
    have e := k1 b o e0
    unfold sortedHeap
    rw [Heap.get?_update_other _ _ (Ne.symm (lne b o e))]
    exact Heap.get?_push_of_some _ (Heap.get?_push_of_some _ ((Heap.get?_update_other _ _ (Ne.symm (lne b o e))).trans (Heap.get?_push_of_some _ e)))
  obtain ⟨c2, o2⟩ : ∃ c, ((h1.push (seqObj "list" its.toArray 0)).update h1.objs.size (Obj.mapSeq fun _ => #[])).get? h1.objs.size = some (seqObj "list" #[] c) := ⟨_, get?_update_seq oL (fun _ => #[])⟩
  obtain ⟨c3, o3⟩ : ∃ c, (sortedHeap (h1.push (seqObj "list" its.toArray 0)) h1.objs.size its ((srt zs).map fun i => its.getD i Value.none).toArray).get? h1.objs.size = some (seqObj "list" ((srt zs).map fun i => its.getD i Value.none).toArray c) :=
    ⟨_, get?_update_seq (Heap.get?_push_of_some _ (Heap.get?_push_of_some _ o2)) (fun _ => ((srt zs).map fun i => its.getD i Value.none).toArray)⟩
  have lp := (srt_perm zs).length_eq
  rw [List.length_range] at lp
  have vv : Vals ((srt zs).map fun i => V.str (zs.getD i "")) ((srt zs).map fun i => its.getD i Value.none) := by
    refine paired_of _ _ (by rw [List.length_map, List.length_map]) fun k x v e1 e2 => ?_
    rw [List.getElem?_map] at e1 e2
    cases ei : (srt zs)[k]? with
    | none => rw [ei] at e1; cases e1
    | some i =>
      rw [ei] at e1 e2
      have hi : i < zs.length := List.mem_range.mp ((srt_perm zs).mem_iff.mp (List.mem_of_getElem? ei))
      obtain ⟨t, e⟩ := str i (by omega)
      rw [← Option.some.inj e1, ← Option.some.inj e2]
      exact ⟨t, e⟩
  exact ⟨.ref h1.objs.size, _, I.laid (t' := s.toks) (o := .lst ((srt zs).map fun i => V.str (zs.getD i ""))) kf z1 ⟨by rw [List.length_map, lp]; exact Nat.le_of_lt (small1000 (by omega)), _, c3, vv, o3⟩, rfl, q _ (I.hok.fresh z1)⟩
end
end L2
set_option Elab.async false
set_option linter.all false
set_option maxRecDepth 100000
set_option maxHeartbeats 4000000
namespace L2
open PySem PySem.Spec PySem.W PyProof.Rows
section
variable {prog : Program} {w : World} {A : Around} {R : Result → Shared → Prop} {I : Addr} {fp wr : List Addr} {G : Array GenState → Array GenState → Prop} {n : Nat} {P : Nat → Value → Prop} {St : Nat → Shared → Prop}
abbrev TxtSet (prog : Program) (w : World) (h : Heap) (S : Addr) (zs : List Str) : Prop := h.SetOf (PySem.strKind prog w) S (fun y => decide (y ∈ zs)) zs.length
theorem TxtSet.stay {h h' : Heap} {S : Addr} {zs : List Str} (x : TxtSet prog w h S zs) (k : ∀ o, h.get? S = some o → h'.get? S = some o) : TxtSet prog w h' S zs := let ⟨o, es, ep, t, ho, r⟩ := x; ⟨o, es, ep, t, k o ho, r⟩
theorem sset_loop (W : WalksS prog w A.in1 I fp wr G n P St) {S : Addr} (hSf : S ∉ fp) {zs : List Str} (hz : zs.length = n) (nd : zs.Nodup) (hv : ∀ i v, P i v → ∃ t, v = .str (zs.getD i "") t) (hb : n + 1 < scanBound) :
    ∀ (k i : Nat) (s : Shared), n - i = k → i ≤ n → St i s → TxtSet prog w s.heap S (zs.take i) → (∀ s', Moved (S :: wr) G s s' → TxtSet prog w s'.heap S zs → R (.ok (.ret .none)) s') →
      codeAny (model prog w) A (.builtin "set.update.loop" ⟨[.ref S, .ref I], []⟩) R s := by
  have nw : S ∉ wr := fun h => hSf (W.sub _ h)
  have up : ∀ b ∈ wr, b ∈ S :: wr := fun b h => List.mem_cons_of_mem _ h
  intro k
  induction k with
  | zero =>
    intro i s hk hi hst hS hR
    obtain rfl : i = n := by omega
    rw [List.take_of_length_le (by omega)] at hS
    refine codeAny_builtin F.entry_set_update_loop (by
      rw [Around.under_plainId F.plain_set_update_loop _]
      refine (show wpAny _ A.in1 (pyNext (.ref I) >>= _) _ _ s from wpAny_bind (W.done s _ _ hst fun s' hm => ?_))
      exact (show wpAny _ A.in1 (ret Value.none) _ _ s' from wpAny_pure (hR s' (hm.mono up) (hS.stay fun o ho => hm.heap S _ nw ho))))
  | succ k ih =>
    intro i s hk hi hst hS hR
    have lt : i < n := by omega
    have li : i < zs.length := by omega
    have ez : zs.getD i "" = zs[i] := by simp [li]
    have out : zs[i] ∉ zs.take i := fun m => by
      obtain ⟨j, hj, e⟩ := List.getElem_of_mem m
      have hj' : j < i := by rw [List.length_take] at hj; omega
      rw [List.getElem_take] at e
      exact absurd (nd_inj nd e) (by omega)
    refine codeAny_builtin F.entry_set_update_loop (by
      rw [Around.under_plainId F.plain_set_update_loop _]
      refine (show wpAny _ A.in1 (pyNext (.ref I) >>= _) _ _ s from wpAny_bind (W.item i s _ _ lt hst fun v s' hP hst' hm => ?_))
      obtain ⟨t, rfl⟩ := hv i v hP
      rw [ez]
      have hS' := hS.stay fun o ho => hm.heap S _ nw ho
      have iz : (PySem.strKind prog w).is zs[i] (.str zs[i] t) = true := by
        show Value.isStrOf zs[i] (.str zs[i] t) = true
        simp [Value.isStrOf]
      refine (show wpAny _ A.in1 (holding [Value.str zs[i] t] (setAdd S (.str zs[i] t)) >>= _) _ _ s' from wpAny_bind (wpAny_holding ?_))
      unfold setAdd
      refine wpAny_holding (wpAny_bind ((PySem.strKind prog w).pyHash (k := zs[i]) iz ?_))
      have lt' : (zs.take i).length = i := by rw [List.length_take]; omega
      refine wpAny_setAddHashed_of (knd := PySem.strKind prog w) (s := { s' with toks := s'.toks + 1 }) iz rfl hS' (by rw [lt']; omega) fun h' sb S2 => ?_
      have S3 : TxtSet prog w h' S (zs.take (i + 1)) := SetOf_congr S2 (fun y => by
        rw [List.take_add_one, List.getElem?_eq_getElem li, ← Bool.decide_or]
        refine decide_eq_decide.mpr ⟨fun h => ?_, fun h => ?_⟩
        · rcases h with h | h
          · exact List.mem_append_left _ h
          · exact List.mem_append_right _ (by rw [h]; exact List.mem_singleton.mpr rfl)
        · rcases List.mem_append.mp h with h | h
          · exact .inl h
          · exact .inr (List.mem_singleton.mp h)) (by
        rw [decide_eq_false out, lt', if_neg Bool.false_ne_true, List.length_take]
        omega)
      refine wpAny_pure ⟨plainId_quiet F.plain_set_update_loop _, ih (i + 1) _ (by omega) lt (W.frame _ s' _ _ hst' (Nat.le_succ _) fun b hb o e => ?_) S3 fun s2 m2 h2 => hR s2 (Moved.trans W.gtrans ((hm.mono up).then_heap (Nat.le_succ _) fun b o hb e => ?_) m2) h2⟩
      · rw [sb.2 b (fun h : b = S => hSf (h ▸ hb))]
        exact e
      · rw [sb.2 b (fun h : b = S => hb (h ▸ List.mem_cons_self))]
        exact e)
end
section
variable {prog : Program} {w : World} {A : Around} {E : Value → Shared → Prop} {s : Shared}
abbrev sObj (led : Bool) : Obj := { cls := .type "set", dict := none, data := .set #[] 0 (.fresh 0 0 led) }
theorem call_sset {l : Addr} {items : Array Value} {zs : List Str} {Q : Value → Shared → Prop} (hh : A.handled = none) (hl : s.heap.IsList l items) (hz : zs.length = items.size) (nd : zs.Nodup) (hv : ∀ (i : Nat) (v : Value), items[i]? = some v → ∃ t, v = Value.str (zs.getD i "") t) (hb : items.size + 1 < scanBound)
    (h : ∀ (h' : Heap) (tk : Nat), TxtSet prog w h' s.heap.objs.size zs → (∀ b o, b < s.heap.objs.size → s.heap.get? b = some o → h'.get? b = some o) → Q (.ref s.heap.objs.size) { s with heap := h', toks := tk }) :
    wpAny (model prog w) A (call (.type "set") [.ref l]) Q E s := by
  obtain ⟨c, tl, hmro⟩ := PySem.F.called_set.mro
  have f1 := PySem.F.called_set.made
  have f2 := PySem.F.called_set.sub
  have f3 := PySem.F.called_set.notType
  have f4 := PySem.F.called_set.canCreate
  have f5 := PySem.F.typeCall_set_1 (.ref l)
  refine wpAny_call (codeAny_of_tree (show wpAny _ _ (callAny (.type "set") _) _ _ _ from wpAny_pure ⟨Code.quiet_builtin _ (by decide +kernel), codeAny_builtin PySem.F.entry_type_call ?_⟩))
  rw [Around.under_plain (weight_type_call_type "set" [.ref l] []) rfl]
  repeat (any_goals (first | assumption | wp_step))
  refine codeAny_mono (PySem.code_set_new_1 (.ref l) (E := E) (Q₁ := fun obj s₁ => ∃ led : Bool, obj = .ref s.heap.objs.size ∧ s₁ = { s with heap := s.heap.push (sObj led) }) fun led => ⟨led, rfl, rfl⟩) fun r s₁ hr => ?_
  rcases r with e | fl
  · exact hr
  cases fl with
  | ret obj =>
    obtain ⟨led, rfl, rfl⟩ := hr
    have o0 : (s.heap.push (sObj led)).get? s.heap.objs.size = some (sObj led) := Heap.get?_push_size _ rfl
    have ty : Shared.TypeIs { s with heap := s.heap.push (sObj led) } (.ref s.heap.objs.size) "set" := ⟨_, o0, rfl⟩
    have g1 := PySem.F.called_set.init.lookup
    have g2 := PySem.F.called_set.init.bind (.ref s.heap.objs.size)
    repeat (any_goals (first | assumption | wp_step))
    refine codeAny_mono (codeAny_call_builtin (R := wants (fun r s₂ => r = .none ∧ ∃ h' tk, s₂ = { s with heap := h', toks := tk } ∧ TxtSet prog w h' s.heap.objs.size zs ∧ ∀ b o, b < s.heap.objs.size → s.heap.get? b = some o → h'.get? b = some o) E) PySem.F.called_set.init.plain PySem.F.entry_set_init (PySem.check_set_init_1 ty ?_)) fun r₂ s₂ hr₂ => ?_
    · obtain ⟨⟨ocls, odict, odata, oslots⟩, hol, hcl, nl, hdl⟩ := id hl
      simp only at hcl hdl
      subst hcl hdl
      have ltl : l < s.heap.objs.size := Heap.lt_size hol
      have ol1 : (s.heap.push (sObj led)).get? l = some { cls := .type "list", dict := odict, data := .seq items nl, slots := oslots } := Heap.get?_push_of_some _ hol
      have ls1 : (s.heap.push (sObj led)).IsList l items := ⟨_, ol1, rfl, nl, rfl⟩
      have y1 := PySem.F.sub_list_set
      have y2 := PySem.F.sub_list_frozenset
      have y3 : (Value.type "list" == Value.type "dict") = false := by decide
      have sz : (s.heap.push (sObj led)).objs.size = s.heap.objs.size + 1 := Heap.size_push ..
      unfold Builtin.«set.__init__» noKeywords Builtin.Frozenset.updateFrom
      generalize hPI : pyIter = PI
      wp_walk
      subst hPI
      refine wpAny_pyIter_list ls1 (wpAny_bind (wpAny_runValue ?_))
      refine sset_loop (zs := zs) ((Walks.list (show A.in1.in1.in1.handled = none by simp [hh]) _ l (show l ≠ (s.heap.push (sObj led)).objs.size by rw [sz]; exact Nat.ne_of_lt (Nat.lt_succ_of_lt ltl)) items).toS) (S := s.heap.objs.size) (fun m => ?_) hz nd hv hb (items.size - 0) 0 _ (by omega) (Nat.zero_le _)
        ⟨⟨_, Heap.get?_push_size _ rfl, rfl, rfl⟩, ls1.push _⟩ ?_ fun s' hm st => ?_
      · rw [sz] at m
        simp only [List.mem_cons, List.not_mem_nil, or_false] at m
        rcases m with m | m
        · exact absurd m (Nat.ne_of_lt (Nat.lt_succ_self _))
        · exact absurd m (Nat.ne_of_gt ltl)
      · exact SetOf_congr ((setObjOf_fresh (knd := PySem.strKind prog w) led).setOf (Heap.get?_push_of_some _ o0) (by unfold scanBound; omega)) (fun y => by simp) (by simp)
      · obtain ⟨h', g', d', tk', os'⟩ := s'
        have e1 : g' = s.gens := hm.gens
        have e2 : d' = s.drawn := hm.drawn
        have e3 : os' = s.os := hm.os
        subst e1 e2 e3
        refine (show wpAny _ _ _ _ _ _ from wpAny_pure (show wpAny _ _ (ret Value.none) _ _ _ from wpAny_pure ⟨rfl, h', tk', rfl, st, fun b o hb' e => ?_⟩))
        refine hm.heap b o (fun m => ?_) (Heap.get?_push_of_some _ (Heap.get?_push_of_some _ e))
        rw [sz] at m
        simp only [List.mem_cons, List.not_mem_nil, or_false] at m
        rcases m with m | m
        · exact absurd hb' (by rw [m]; exact Nat.lt_irrefl _)
        · exact absurd hb' (by rw [m]; exact Nat.not_lt.mpr (Nat.le_succ _))
    · rcases r₂ with e | fl₂
      · exact hr₂
      cases fl₂ with
      | ret r =>
        obtain ⟨rfl, h', tk, rfl, st, kp⟩ := hr₂
        repeat (any_goals (first | assumption | wp_step))
        exact h _ _ st kp
      | _ => exact hr₂.elim
  | _ => exact hr.elim
end
section
variable {X : Cx} {e : Expr} {te : TE} {p1 p2 pos1 pos2 : Pos}
def tLenSet (K : PySem.W.Frag) (te : TE) : TE := fun σ H Q => te σ H fun x H1 => ∃ (a : Addr) (zs : List Str), x = .ref a ∧ SqL K H1 a (zs.map V.str) ∧ zs.length ≤ 1000 ∧ zs.Nodup ∧ Q (.int (zs.length : Nat)) H1
theorem pe_lenset (hc : X.calm = true) (g1 : Gl X "len") (m1 : X.mg "len" = none) (g2 : Gl X "set") (m2 : X.mg "set" = none) (ha : PE X e te)
    (hs : starEach [e] X.env = [(false, eval e X.env)] := by rfl)
    (hs3 : starEach [.Call (.Name "set" p2) [e] [] pos2] X.env = [(false, eval (.Call (.Name "set" p2) [e] [] pos2) X.env)] := by rfl) :
    PE X (.Call (.Name "len" p1) [.Call (.Name "set" p2) [e] [] pos2] [] pos1) (tLenSet X.K te) := by
  intro pins s σ H Q I h
  refine wpAny_Call_Name_kw (ld_blt I g1 m1 boot_len (PyProof.Rows.callWith_builtin1 (spl1 hs3 ?_) (by rw [hs3]; rfl) rfl))
  refine wpAny_Call_Name_kw (ld_blt I g2 m2 boot_set (PyProof.Rows.callWith_type1 (spl1 hs (thn (ha pins s σ H _ I h) fun u s1 ⟨x, H1, I1, r1, a, zs, ex, hq, hz, nd, q⟩ => ?_)) (by rw [hs]; rfl) rfl))
  subst ex
  cases r1
  obtain ⟨its, rv, pl, _⟩ := I1.list hq
  have ln : its.length = zs.length := by
    have := rv.length
    rw [List.length_map] at this
    exact this.symm
  refine call_sset (zs := zs) (I1.ok.hd hc) pl.isList (by simp [ln]) nd (fun i v e => ?_) (by simp only [List.size_toArray, ln]; show zs.length + 1 < 4096; omega) fun h' tk st kp => ?_
  · have e' : its[i]? = some v := by simpa using e
    have hi : i < zs.length := by
      have := (List.getElem?_eq_some_iff.mp e').1
      omega
    have h1 : (zs.map V.str)[i]? = some (V.str zs[i]) := by rw [List.getElem?_map, List.getElem?_eq_getElem hi]; rfl
    obtain ⟨w', hw, t', e2⟩ := rv.get h1
    rw [e'] at hw
    cases hw
    exact ⟨t', by rw [e2, List.getD_eq_getElem?_getD, List.getElem?_eq_getElem hi]; rfl⟩
  · obtain ⟨o, es, ep, t, ho, ex, hd, _, _, hb, hf, hn⟩ := st
    refine call_len_set ho ex hd hf (by have : es.size < 4096 := hb; omega) ⟨.int (zs.length : Nat), H1, (I1.kept (t' := tk) fun b o e => kp b o (Heap.lt_size e) e).tok _, ⟨_, by rw [hn]⟩, q⟩
theorem je_lenset (hc : X.calm = true) (g1 : Gl X "len") (m1 : X.mg "len" = none) (g2 : Gl X "set") (m2 : X.mg "set" = none) (ha : JE X e te) (hs : starEach [e] X.env = [(false, eval e X.env)] := by rfl) (hs3 : starEach [.Call (.Name "set" p2) [e] [] pos2] X.env = [(false, eval (.Call (.Name "set" p2) [e] [] pos2) X.env)] := by rfl) : JE X (.Call (.Name "len" p1) [.Call (.Name "set" p2) [e] [] pos2] [] pos1) (tLenSet X.K te) := .of (pe_lenset hc g1 m1 g2 m2 ha.to hs hs3)
end
end L2
set_option linter.all false
namespace MRing
section
variable {α : Type} (G : α → List α)
def Trap (T : List α) : Prop := ∀ z ∈ T, ∃ y ∈ G z, y ∈ T
structure Ring (r : List α) : Prop where
  ne : r ≠ []
  nd : r.Nodup
  go : ∀ (i : Nat) (x y : α), r[i]? = some x → (r.drop 1 ++ r.take 1)[i]? = some y → y ∈ G x
variable {G}
theorem turn_at {r : List α} {i : Nat} (h : i + 1 < r.length) : (r.drop 1 ++ r.take 1)[i]? = r[i + 1]? := by
  rw [List.getElem?_append_left (by rw [List.length_drop]; omega), List.getElem?_drop, Nat.add_comm]
theorem turn_end {r : List α} {i : Nat} (h : i + 1 = r.length) : (r.drop 1 ++ r.take 1)[i]? = r[0]? := by
  rw [List.getElem?_append_right (by rw [List.length_drop]; omega), List.length_drop, List.getElem?_take]
  rw [if_pos (by omega)]
  congr 1
  omega
theorem Ring.trap {r : List α} (h : Ring G r) : Trap G r := fun z hz => by
  obtain ⟨i, hi, e⟩ := List.getElem_of_mem hz
  have ei : r[i]? = some z := by rw [List.getElem?_eq_getElem hi, e]
  by_cases c : i + 1 < r.length
  · exact ⟨r[i + 1], h.go i z _ ei (by rw [turn_at c, List.getElem?_eq_getElem c]), List.getElem_mem c⟩
  · have h0 : 0 < r.length := by omega
    exact ⟨r[0], h.go i z _ ei (by rw [turn_end (by omega), List.getElem?_eq_getElem h0]), List.getElem_mem h0⟩
theorem ring_of {w : List α} {n : α} {j : Nat} (nd : w.Nodup) (chain : ∀ (i : Nat) (x y : α), w[i]? = some x → w[i + 1]? = some y → y ∈ G x) (last : ∀ x, w[w.length - 1]? = some x → n ∈ G x) (hj : w[j]? = some n) : Ring G (w.drop j) := by
  have jl : j < w.length := (List.getElem?_eq_some_iff.mp hj).1
  have ld : (w.drop j).length = w.length - j := List.length_drop
  refine ⟨fun e => ?_, nd.sublist (List.drop_sublist j w), fun i x y ex ey => ?_⟩
  · have := congrArg List.length e
    rw [ld] at this
    simp at this
    omega
  · have il : i < (w.drop j).length := (List.getElem?_eq_some_iff.mp ex).1
    have ex' : w[j + i]? = some x := by rw [← List.getElem?_drop]; exact ex
    by_cases c : i + 1 < (w.drop j).length
    · rw [turn_at c, List.getElem?_drop] at ey
      exact chain (j + i) x y ex' (by rw [← ey]; congr 1)
    · rw [turn_end (by omega), List.getElem?_drop, Nat.add_zero, hj] at ey
      obtain rfl := Option.some.inj ey
      exact last x (by rw [← ex']; congr 1; omega)
theorem trap_stays {T S : List α} {z : α} (t : Trap G T) (d : ∀ y ∈ T, y ∉ S) (h : ∀ y ∈ G z, y ∈ S) : z ∉ T := fun hz => by
  obtain ⟨y, hy, hT⟩ := t z hz
  exact d y hT (h y hy)
end
end MRing
set_option Elab.async false
set_option linter.all false
set_option maxRecDepth 100000
set_option maxHeartbeats 4000000
namespace Rh
open PySem L2
def top (i : Nat) : Stmt := PySem.Challenge.pw_ringheaps_k86_rings.main.body.getD i (.Pass ⟨0, 0, 0, 0⟩)
abbrev sName : Stmt := top 14
abbrev sCell : Stmt := top 27
abbrev sSource : Stmt := top 28
abbrev sTake : Stmt := top 29
abbrev sNames : Stmt := top 30
abbrev sLeads : Stmt := top 31
abbrev sRows : Stmt := top 32
abbrev sLaw : Stmt := top 37
end Rh
namespace Rh
open PySem L2 PyProof.Rows
structure Has (K : PySem.W.Frag) (mg : Str → Option Value) (x : Str) (st : Stmt) (ps : List Str) (f : Addr) (fd : FuncData) : Prop where
  fn : Fun K x x st f fd
  ns : mg x = some (.ref f)
  bi : Binds K fd ps []
theorem je_f {X : Cx} {x : Str} {st : Stmt} {ps : List Str} {f : Addr} {fd : FuncData} {k : Nat} {sp : Sp} {e : Expr} {es : List Expr} {t : TA} {p pos : Pos} (h : Has X.K X.mg x st ps f fd) (G : FnOk X.prog X.w X.K X.mg X.base CX0 k f fd ps sp) (hr : Room k X.A)
    (hg : Gl X x) (ha : JA X (e :: es) t) (hdb : (x == ("__debug__" : Str)) = false := by decide) (he : starEach (e :: es) X.env = (false, eval e X.env) :: starEach es X.env := by rfl) (hpl : (backTo pos (starEach es X.env)).any (·.1) = false := by rfl) :
    JE X (.Call (.Name x p) (e :: es) [] pos) (tCall sp [] E0 t) := .of (pe_call G hr hg h.ns h.fn.kp h.bi .nil pass0 ha.to hdb he hpl)
theorem upd_keep {H : Hp} {b p : Addr} {o o' : HO} (h : H b = some o) (hp : H p = none) : upd H p o' b = some o := by
  rw [upd_ne (ne_of_none h hp)]
  exact h
theorem same_upd {H : Hp} {p : Addr} {o : HO} (hp : H p = none) : Same H (upd H p o) := fun b u h => upd_keep h hp
theorem Same.upd {H H' : Hp} {p : Addr} {o : HO} (s : Same H H') (hp : H p = none) : Same H (upd H' p o) := fun b u h => by
  rw [upd_ne (ne_of_none h hp)]
  exact s b u h
def src (n s t : Int) : List (Key × V) := [(Sum.inr "number", .int n), (Sum.inr "seed", .int s), (Sum.inr "turn", .int t)]
theorem nns : ¬ (Str.ofString "number") = Str.ofString "seed" := by decide +kernel
theorem nnt : ¬ (Str.ofString "number") = Str.ofString "turn" := by decide +kernel
theorem nst : ¬ (Str.ofString "seed") = Str.ofString "turn" := by decide +kernel
theorem nsn : ¬ (Str.ofString "seed") = Str.ofString "number" := by decide +kernel
theorem ntn : ¬ (Str.ofString "turn") = Str.ofString "number" := by decide +kernel
theorem nts : ¬ (Str.ofString "turn") = Str.ofString "seed" := by decide +kernel
theorem inrNe {a b : Str} (h : ¬ a = b) : ¬ (Sum.inr a : Key) = Sum.inr b := fun e => h (Sum.inr.inj e)
section
variable {H : Hp} {d : Addr} {n s t : Int}
theorem gN (h : H d = some (.dK (src n s t))) : DGet H d (.str "number") (some (.int n)) := by
  have e : valV (src n s t) (Sum.inr "number" : Key) = some (.int n) := valV_pos rfl
  have q := DGet.k (k := (Sum.inr "number" : Key)) h
  rw [e] at q
  exact q
theorem gS (h : H d = some (.dK (src n s t))) : DGet H d (.str "seed") (some (.int s)) := by
  have e : valV (src n s t) (Sum.inr "seed" : Key) = some (.int s) := (valV_neg (inrNe nns)).trans (valV_pos rfl)
  have q := DGet.k (k := (Sum.inr "seed" : Key)) h
  rw [e] at q
  exact q
theorem gT (h : H d = some (.dK (src n s t))) : DGet H d (.str "turn") (some (.int t)) := by
  have e : valV (src n s t) (Sum.inr "turn" : Key) = some (.int t) := (valV_neg (inrNe nnt)).trans ((valV_neg (inrNe nst)).trans (valV_pos rfl))
  have q := DGet.k (k := (Sum.inr "turn" : Key)) h
  rw [e] at q
  exact q
theorem src3 : (src n s t).length < sizeLine := small1000 (by show 3 ≤ 1000; decide)
theorem pN (h : H d = some (.dK (src n s t))) (v : Int) : DPut H d (.str "number") (.int v) (upd H d (.dK (src v s t))) := by
  have e : putK (src n s t) (Sum.inr "number" : Key) (.int v) = src v s t := by
    unfold putK src
    simp [nsn, ntn]
  have q := DPut.k (k := (Sum.inr "number" : Key)) (v := .int v) h src3
  rw [e] at q
  exact q
theorem pT (h : H d = some (.dK (src n s t))) (v : Int) : DPut H d (.str "turn") (.int v) (upd H d (.dK (src n s v))) := by
  have e : putK (src n s t) (Sum.inr "turn" : Key) (.int v) = src n s v := by
    unfold putK src
    simp [nnt, nst]
  have q := DPut.k (k := (Sum.inr "turn" : Key)) (v := .int v) h src3
  rw [e] at q
  exact q
end
def spTake : Sp := fun vs H Q _ => ∃ (d : Addr) (m n s t : Int), vs = [.ref d, .int m] ∧ H d = some (.dK (src n s t)) ∧ 0 < m ∧ m.natAbs < 2 ^ 200 ∧ ∀ r n' t', 0 ≤ r → r < m → Q (.int r) (upd H d (.dK (src n' s t')))
def spSource : Sp := fun vs H Q _ => ∃ c : Int, vs = [.int c] ∧ ∀ d n s, H d = none → Q (.ref d) (upd H d (.dK (src n s 0)))
def spCell (K : PySem.W.Frag) : Sp := fun vs H Q _ => ∃ (a : Addr) (ns : List Int) (k : Int), vs = [.ref a, .int k] ∧ SqL K H a (ns.map V.int) ∧ 0 ≤ k ∧ ∀ v, Q (.int v) H
section
variable {P : Program} {w : World} {K : PySem.W.Frag} {mg : Str → Option Value} {base : Heap}
theorem scTake : FnScope ["_law_source_here", "_law_many", "_law_digit", "_law_number"] ["_law_source_here", "_law_many"] (defScope sTake) := ⟨rfl, rfl, rfl, by decide +kernel, rfl, by decide +kernel, by decide +kernel⟩
theorem ok_take {f : Addr} {fd : FuncData} (F : Fun K "_law_take" "_law_take" sTake f fd) : FnOk P w K mg base CX0 1 f fd ["_law_source_here", "_law_many"] spTake := by
  refine F.okJ scTake (fun vs H Q E h => ?_) (fun cdv A outer s H vs Q E hr h => ?_)
  · obtain ⟨d, m, n, sd, t, rfl, _⟩ := h
    rfl
  · obtain ⟨d, m, n, sd, t, rfl, hd, m0, m1, k⟩ := h
    have hu := hu_of hr
    refine ⟨_, jss_cons (js_if (jt_cmpR op_gt (je_dget hu (jv 0) je_str (fun _ _ => rfl)) je_int (nomark _))
        (jss_cons (js_set (i := 2) scTake.nd rfl (Or.inl rfl) (je_op op_mod (je_dget hu (jv 0) je_str (fun _ _ => rfl)) (jv 1)))
        (jss_cons (js_dput hu (jv 0) je_str (je_op op_fdivB (je_dget hu (jv 0) je_str (fun _ _ => rfl)) (jv 1)) rfl)
        (jss_one (js_ret (jv 2))))) jss_nil)
      (jss_cons (js_dput hu (jv 0) je_str (je_op op_add (je_dget hu (jv 0) je_str (fun _ _ => rfl)) je_int) rfl)
      (jss_cons (js_set (i := 3) scTake.nd rfl (Or.inl rfl) (je_op op_mod (je_op op_mul (je_op op_add (je_dget hu (jv 0) je_str (fun _ _ => rfl)) (je_op op_mul je_int (je_dget hu (jv 0) je_str (fun _ _ => rfl)))) je_int) je_int))
      (jss_cons (js_set (i := 3) scTake.nd rfl (Or.inl rfl) (je_op op_mod (je_op op_mul (jv 3) (jv 3)) je_int))
      (jss_one (js_ret (je_op op_mod (je_op op_fdiv (je_op op_mod (je_op op_mul (je_op op_add (jv 3) (je_dget hu (jv 0) je_str (fun _ _ => rfl))) (je_op op_add (jv 3) je_int)) je_int) je_int) (jv 1))))))), ?_⟩
    refine ⟨_, rfl, d, _, rfl, gN hd, _, _, rfl, rfl, _, rfl, ?_⟩
    refine ite2 (fun _ => ?_) (fun _ => ?_)
    · refine ⟨_, rfl, d, _, rfl, gN hd, _, rfl, _, _, rfl, rfl, m0, ?_⟩
      refine ⟨_, rfl, d, _, rfl, gN hd, _, rfl, _, _, rfl, rfl, ⟨m0, m1⟩, _, rfl, d, _, rfl, pN hd _, ?_⟩
      exact ⟨_, rfl, k _ _ _ (Int.emod_nonneg _ (by omega)) (Int.emod_lt_of_pos _ m0)⟩
    · refine ⟨_, rfl, d, _, rfl, gT hd, _, _, rfl, rfl, _, rfl, d, _, rfl, pT hd _, ?_⟩
      have h1 : upd H d (.dK (src n sd (t + 1))) d = some (.dK (src n sd (t + 1))) := upd_same
      refine ⟨_, rfl, d, _, rfl, gS h1, _, rfl, d, _, rfl, gT h1, _, _, rfl, rfl, .inl ⟨by decide, by decide⟩, _, _, rfl, rfl, _, _, rfl, rfl, .inr ⟨by decide, by decide⟩, _, _, rfl, rfl, (by show (0 : Int) < 2147483647; decide), ?_⟩
      generalize ha : ((sd + 7919 * (t + 1)) * 48271) % 2147483647 = x
      have x0 : 0 ≤ x := by rw [← ha]; exact Int.emod_nonneg _ (by decide)
      have x1 : x < 2147483647 := by rw [← ha]; exact Int.emod_lt_of_pos _ (by decide)
      refine ⟨_, rfl, _, rfl, _, _, rfl, rfl, .inl ⟨by omega, by omega⟩, _, _, rfl, rfl, (by show (0 : Int) < 2147483629; decide), ?_⟩
      generalize hb : (x * x) % 2147483629 = y
      have y0 : 0 ≤ y := by rw [← hb]; exact Int.emod_nonneg _ (by decide)
      have y1 : y < 2147483629 := by rw [← hb]; exact Int.emod_lt_of_pos _ (by decide)
      refine ⟨_, rfl, _, rfl, d, _, rfl, gT h1, _, _, rfl, rfl, _, rfl, _, _, rfl, rfl, _, _, rfl, rfl, .inr ⟨by omega, by omega⟩, _, _, rfl, rfl, (by show (0 : Int) < 2147483587; decide), _, _, rfl, rfl, ⟨by decide, by decide⟩, _, rfl, _, _, rfl, rfl, m0, ?_⟩
      exact k _ _ _ (Int.emod_nonneg _ (by omega)) (Int.emod_lt_of_pos _ m0)
end
end Rh
namespace Rh
open PySem L2 PyProof.Rows
structure Blt (mg : Str → Option Value) : Prop where
  len : mg "len" = none
  max : mg "max" = none
  min : mg "min" = none
  int : mg "int" = none
  rng : mg "range" = none
theorem merge_src (n s t : Int) : mergeK [] (src n s t) = src n s t := by
  unfold mergeK src
  simp only [List.foldl_cons, List.foldl_nil]
  unfold putK
  simp [nns, nnt, nst, nsn, ntn, nts]
section
variable {P : Program} {w : World} {K : PySem.W.Frag} {mg : Str → Option Value} {base : Heap}
theorem scSource : FnScope ["_law_cell"] ["_law_cell"] (defScope sSource) := ⟨rfl, rfl, rfl, by decide +kernel, rfl, by decide +kernel, by decide +kernel⟩
theorem ok_source {f : Addr} {fd : FuncData} (F : Fun K "_law_source" "_law_source" sSource f fd) (B : Blt mg) : FnOk P w K mg base CX0 1 f fd ["_law_cell"] spSource := by
  refine F.okJ scSource (fun vs H Q E h => ?_) (fun cdv A outer s H vs Q E hr h => ?_)
  · obtain ⟨c, rfl, _⟩ := h
    rfl
  · obtain ⟨c, rfl, k⟩ := h
    refine ⟨_, jss_one (js_ret (je_disp
      (jps_cons je_str (je_op op_mul (je_callB (call_max2 rfl) (by rfl) B.max boot_max (ja_cons je_int (ja_cons (jv 0) ja_nil)))
        (je_callTy call_int1 (by rfl) B.int boot_int (ja_cons (je_cmpR op_ge (jv 0) (je_op op_pow je_int je_int) (nomark _)) ja_nil)))
      (jps_cons je_str (je_op op_mod (jv 0) je_int) (jps_cons je_str je_int jps_nil))) rfl rfl (by simp) (by decide))), ?_⟩
    intro p hp
    refine ⟨_, rfl, _, _, rfl, _, rfl, _, _, rfl, rfl, ⟨by decide, by decide, by decide⟩, _, _, rfl, rfl, .inr ⟨_, rfl, _, _, rfl, rfl, .inr ?_, _, rfl, _, _, rfl, rfl, (by show (0 : Int) < 2147483629; decide), ?_⟩⟩
    · split <;> exact ⟨by decide, by decide⟩
    · refine ⟨upd_same, src _ _ 0, rfl, (by show 3 ≤ 15; decide), ?_⟩
      rw [merge_src, upd_upd]
      exact k p _ _ hp
theorem scCell : FnScope ["_law_script", "_law_k"] ["_law_script", "_law_k"] (defScope sCell) := ⟨rfl, rfl, rfl, by decide +kernel, rfl, by decide +kernel, by decide +kernel⟩
theorem ok_cell {f : Addr} {fd : FuncData} (F : Fun K "_law_cell_at" "_law_cell_at" sCell f fd) (B : Blt mg) : FnOk P w K mg base CX0 1 f fd ["_law_script", "_law_k"] (spCell K) := by
  refine F.okJ scCell (fun vs H Q E h => ?_) (fun cdv A outer s H vs Q E hr h => ?_)
  · obtain ⟨a, ns, k, rfl, _⟩ := h
    rfl
  · obtain ⟨a, ns, k, rfl, hS, k0, q⟩ := h
    refine ⟨_, jss_cons (js_if (jt_cmpR op_lt (jv 1) (je_callB call_len_seq (by rfl) B.len boot_len (ja_cons (jv 0) ja_nil)) (nomark _))
        (jss_one (js_ret (je_ix ix_list (jv 0) (jv 1) (fun _ _ => rfl)))) jss_nil)
      (jss_one (js_ret (je_op op_add (je_op op_mul je_int (jv 1)) je_int))), ?_⟩
    refine ⟨_, rfl, _, rfl, a, _, rfl, .inl hS, _, _, rfl, rfl, _, rfl, ?_⟩
    refine ite2 (fun h => ?_) (fun _ => ?_)
    · have h1 : k < ((ns.map V.int).length : Int) := of_decide_eq_true h
      rw [List.length_map] at h1
      have h2 : k.toNat < ns.length := by omega
      have h3 : (ns.map V.int)[k.toNat]? = some (V.int ns[k.toNat]) := by rw [List.getElem?_map, List.getElem?_eq_getElem h2]; rfl
      have h4 : k = ((k.toNat : Nat) : Int) := by omega
      refine ⟨_, rfl, _, rfl, a, _, k, V.int ns[k.toNat], rfl, rfl, hS, ?_, q _⟩
      have h5 := atI_nat h3
      rw [← h4] at h5
      exact h5
    · exact ⟨_, rfl, _, _, rfl, rfl, .inl ⟨by decide, by decide⟩, _, _, rfl, rfl, q _⟩
end
end Rh
set_option Elab.async false
set_option linter.all false
set_option maxRecDepth 100000
set_option maxHeartbeats 4000000
namespace Rh
open PySem L2 PyProof.Rows
def Fr (H : Hp) (d : Addr) (H' : Hp) : Prop := ∀ b o, H b = some o → b ≠ d → H' b = some o
theorem Fr.refl {H : Hp} {d : Addr} : Fr H d H := fun _ _ h _ => h
theorem Fr.at_d {H H' : Hp} {d : Addr} {o : HO} (h : Fr H d H') : Fr H d (upd H' d o) := fun b u hb hn => by
  rw [upd_ne hn]
  exact h b u hb hn
theorem Fr.new {H H' : Hp} {d p : Addr} {o : HO} (h : Fr H d H') (hp : H' p = none) : Fr H d (upd H' p o) := fun b u hb hn => upd_keep (h b u hb hn) hp
theorem Fr.own {H H' : Hp} {d p : Addr} {o : HO} (h : Fr H d H') (hp : H p = none) : Fr H d (upd H' p o) := fun b u hb hn => by
  rw [upd_ne (ne_of_none hb hp)]
  exact h b u hb hn
theorem Fr.trans {H H' H'' : Hp} {d : Addr} (h : Fr H d H') (k : Fr H' d H'') : Fr H d H'' := fun b u hb hn => k b u (h b u hb hn) hn
theorem Fr.fresh {H H' : Hp} {d p : Addr} {o : HO} (h : Fr H d H') (hd : H' d = some o) (hp : H' p = none) : H p = none := by
  cases e : H p with
  | none => rfl
  | some u =>
    by_cases n : p = d
    · subst n
      rw [hd] at hp
      cases hp
    · rw [h p u e n] at hp
      cases hp
def letter (c : Nat) : Bool := decide (97 ≤ c) && decide (c ≤ 122)
def isName (z : Str) : Bool := (decide (1 ≤ z.length) && decide (z.length ≤ 8)) && z.cps.toList.all letter
def abc : Str := "abcdefghijklmnopqrstuvwxyz"
theorem abc_codes : abc.cps.toList = [97, 98, 99, 100, 101, 102, 103, 104, 105, 106, 107, 108, 109, 110, 111, 112, 113, 114, 115, 116, 117, 118, 119, 120, 121, 122] := by decide +kernel
theorem abc_up : abc.cps.toList = (List.range 26).map (97 + ·) := by rw [abc_codes]; rfl
theorem abc_len : abc.length ≤ sizeLine := by
  show abc.cps.size ≤ sizeLine
  rw [← Array.length_toList, abc_codes]
  decide
theorem abc_at {r : Int} (h0 : 0 ≤ r) (h1 : r < 26) : atI abc.cps.toList r = some (97 + r.toNat) := by
  have h2 : abc.cps.toList[r.toNat]? = some (97 + r.toNat) := by
    rw [abc_up, List.getElem?_map, List.getElem?_range (by omega)]
    rfl
  have h4 := atI_nat h2
  have h5 : r = ((r.toNat : Nat) : Int) := by omega
  rw [← h5] at h4
  exact h4
theorem letter_of {r : Int} (h0 : 0 ≤ r) (h1 : r < 26) : letter (97 + r.toNat) = true := by
  unfold letter
  rw [decide_eq_true (by omega : 97 ≤ 97 + r.toNat), decide_eq_true (by omega : 97 + r.toNat ≤ 122)]
  rfl
theorem joined (ws : List Nat) : (Txt.join (Str.ofString "") (ws.map fun k => (⟨#[k]⟩ : Str))).cps.toList = ws := by
  show (Builtin.Str.glued (Str.ofString "") _).cps.toList = _
  rw [StrLaws.glued_eq_join]
  have e : (Str.ofString "") = ⟨#[]⟩ := by decide +kernel
  rw [e, PyProof.Rows.join_ones]
theorem isName_of {z : Str} {A B : List Nat} {c : Nat} (e : z.cps.toList = A ++ [c] ++ B) (hA : A.all letter = true) (hc : letter c = true) (hB : B.all letter = true) (hl : A.length + B.length ≤ 7) : isName z = true := by
  have l : z.length = A.length + 1 + B.length := by
    show z.cps.size = _
    rw [← Array.length_toList, e]
    simp
    omega
  unfold isName
  rw [decide_eq_true (by omega : 1 ≤ z.length), decide_eq_true (by omega : z.length ≤ 8), e, List.all_append, List.all_append, hA, hB]
  simp [hc]
def nth (f s : Int) (k : Nat) : Nat := 97 + ((f + s * (k : Int)) % 26).toNat
theorem nth_fin : ∀ s ∈ [(1 : Int), 3, 5, 7, 9, 11], ∀ k, k < 14 → ∀ j, j < 14 → (s * ((k : Nat) : Int) - s * ((j : Nat) : Int)) % 26 = 0 → k = j := by decide +kernel
theorem nth_inj {f s : Int} {k j : Nat} (hs : s = 1 ∨ s = 3 ∨ s = 5 ∨ s = 7 ∨ s = 9 ∨ s = 11) (hk : k < 14) (hj : j < 14) (h : nth f s k = nth f s j) : k = j := by
  unfold nth at h
  refine nth_fin s (by simpa using hs) k hk j hj ?_
  generalize s * (k : Int) = x at h ⊢
  generalize s * (j : Int) = y at h ⊢
  omega
def NamesTo (A : List Nat) (f s : Int) (zs : List Str) : Prop := ∀ j z, zs[j]? = some z → ∃ B, z.cps.toList = A ++ [nth f s j] ++ B ∧ B.all letter = true ∧ A.length + B.length ≤ 7
theorem NamesTo.snoc {A : List Nat} {f s : Int} {zs : List Str} (h : NamesTo A f s zs) {z : Str} {B : List Nat} (e : z.cps.toList = A ++ [nth f s zs.length] ++ B) (hB : B.all letter = true) (hl : A.length + B.length ≤ 7) : NamesTo A f s (zs ++ [z]) := by
  intro j y hy
  by_cases hj : j < zs.length
  · rw [List.getElem?_append_left hj] at hy
    exact h j y hy
  · have hj' : j = zs.length := by
      have := (List.getElem?_eq_some_iff.mp hy).1
      rw [List.length_append, List.length_singleton] at this
      omega
    subst hj'
    rw [List.getElem?_append_right (Nat.le_refl _), Nat.sub_self] at hy
    obtain rfl := (Option.some.inj hy).symm
    exact ⟨B, e, hB, hl⟩
theorem NamesTo.names {A : List Nat} {f s : Int} {zs : List Str} (h : NamesTo A f s zs) (hA : A.all letter = true) : ∀ z ∈ zs, isName z = true := fun z hz => by
  obtain ⟨j, hj⟩ := List.getElem?_of_mem hz
  obtain ⟨B, e, hB, hl⟩ := h j z hj
  refine isName_of e hA ?_ hB hl
  unfold nth
  exact letter_of (Int.emod_nonneg _ (by decide)) (Int.emod_lt_of_pos _ (by decide))
theorem NamesTo.nodup {A : List Nat} {f s : Int} {zs : List Str} (h : NamesTo A f s zs) (hs : s = 1 ∨ s = 3 ∨ s = 5 ∨ s = 7 ∨ s = 9 ∨ s = 11) (hz : zs.length ≤ 14) : zs.Nodup := by
  refine List.pairwise_iff_getElem.mpr fun i j hi hj hij e => ?_
  obtain ⟨B, b1, _⟩ := h j _ (List.getElem?_eq_getElem hj)
  obtain ⟨C, c1, _⟩ := h i _ (List.getElem?_eq_getElem hi)
  rw [e] at c1
  have e2 : (A ++ [nth f s j] ++ B)[A.length]? = (A ++ [nth f s i] ++ C)[A.length]? := by rw [← b1, ← c1]
  rw [List.append_assoc, List.append_assoc, List.getElem?_append_right (Nat.le_refl _), List.getElem?_append_right (Nat.le_refl _), Nat.sub_self] at e2
  have e3 : nth f s j = nth f s i := Option.some.inj e2
  exact absurd (nth_inj hs (by omega) (by omega) e3) (by omega)
theorem all_take {A : List Nat} (h : A.all letter = true) (n : Nat) : (A.take n).all letter = true := by
  rw [List.all_eq_true] at h ⊢
  exact fun x hx => h x (List.mem_of_mem_take hx)
theorem six_at {r : Int} (h0 : 0 ≤ r) (h1 : r < 6) : ∃ m : Int, (m = 1 ∨ m = 3 ∨ m = 5 ∨ m = 7 ∨ m = 9 ∨ m = 11) ∧ atI [V.int 1, V.int 3, V.int 5, V.int 7, V.int 9, V.int 11] r = some (.int m) := by
  have : r = 0 ∨ r = 1 ∨ r = 2 ∨ r = 3 ∨ r = 4 ∨ r = 5 := by omega
  rcases this with rfl | rfl | rfl | rfl | rfl | rfl
  · exact ⟨1, by decide, rfl⟩
  · exact ⟨3, by decide, rfl⟩
  · exact ⟨5, by decide, rfl⟩
  · exact ⟨7, by decide, rfl⟩
  · exact ⟨9, by decide, rfl⟩
  · exact ⟨11, by decide, rfl⟩
def spNames : Sp := fun vs H Q _ => ∃ (d : Addr) (m : Nat) (n s t : Int), vs = [.ref d, .int m] ∧ H d = some (.dK (src n s t)) ∧ m ≤ 14 ∧
  ∀ (l : Addr) (zs : List Str) (n' t' : Int) (H' : Hp), H l = none → H' l = some (.lst (zs.map V.str)) → zs.length = m → (∀ z ∈ zs, isName z = true) → zs.Nodup → H' d = some (.dK (src n' s t')) → Fr H d H' → Q (.ref l) H'
theorem sum_ones : ∀ zs : List Str, (zs.map fun _ => 1).sum = zs.length
  | [] => rfl
  | z :: zs => by rw [List.map_cons, List.sum_cons, sum_ones zs, List.length_cons]; omega
section
variable {P : Program} {w : World} {K : PySem.W.Frag} {mg : Str → Option Value} {base : Heap}
abbrev nNames : List Str := ["_law_source_here", "_law_many", "_law_letters", "_law_word", "_law_ahead", "_law_first", "_law_step", "_law_names_here", "_law_k", "_law_behind"]
theorem scNames : FnScope nNames ["_law_source_here", "_law_many"] (defScope sNames) := ⟨rfl, rfl, rfl, by decide +kernel, rfl, by decide +kernel, by decide +kernel⟩
theorem ok_names {f fT : Addr} {fd fdT : FuncData} (F : Fun K "_law_names" "_law_names" sNames f fd) (B : Blt mg) (hT : Has K mg "_law_take" sTake ["_law_source_here", "_law_many"] fT fdT) : FnOk P w K mg base CX0 2 f fd ["_law_source_here", "_law_many"] spNames := by
  have GT : FnOk P w K mg base CX0 1 fT fdT ["_law_source_here", "_law_many"] spTake := ok_take hT.fn
  refine F.okJ scNames (fun vs H Q E h => ?_) (fun cdv A outer s H vs Q E hr h => ?_)
  · obtain ⟨d, m, n, sd, t, rfl, _⟩ := h
    rfl
  · obtain ⟨d, m, n, sd, t, rfl, hd, hm, q⟩ := h
    refine ⟨_, jss_cons (js_set (i := 2) scNames.nd rfl (Or.inr rfl) je_str)
      (jss_cons (js_set (i := 3) scNames.nd rfl (Or.inl rfl) (je_bm PySem.F.plainAttrs_str PySem.F.slot_str_join PySem.F.type_str_join mt_join je_str (ja_cons
        (je_lc (N' := ["_law_k", "_law_letters", "_law_source_here"]) (ix := [none, some 2, some 0]) rfl ⟨rfl, rfl, rfl, rfl, rfl⟩
          (ji_range1 (by rfl) B.rng (ja_cons je_int ja_nil))
          (fun C s2 H2 fp pins => ⟨jg_name (i := 0) (show (["_law_k", "_law_letters", "_law_source_here"] : List Str).Nodup by decide +kernel) rfl (Or.inl rfl), jts_nil,
            je_ix ix_str (jv 1) (je_f hT GT hr (by rfl) (ja_cons (jv 2) (ja_cons je_int ja_nil))) (fun _ _ => rfl)⟩)) ja_nil)))
      (jss_cons (js_set (i := 4) scNames.nd rfl (Or.inl rfl) (je_slice sl_str (jv 3) jo_none (jo_some (je_op op_mul (je_f hT GT hr (by rfl) (ja_cons (jv 0) (ja_cons je_int ja_nil))) (je_f hT GT hr (by rfl) (ja_cons (jv 0) (ja_cons je_int ja_nil)))))))
      (jss_cons (js_set (i := 5) scNames.nd rfl (Or.inl rfl) (je_f hT GT hr (by rfl) (ja_cons (jv 0) (ja_cons je_int ja_nil))))
      (jss_cons (js_set (i := 6) scNames.nd rfl (Or.inl rfl) (je_ix ix_list (je_lst (ja_cons je_int (ja_cons je_int (ja_cons je_int (ja_cons je_int (ja_cons je_int (ja_cons je_int ja_nil))))))) (je_f hT GT hr (by rfl) (ja_cons (jv 0) (ja_cons je_int ja_nil))) (fun _ _ => rfl)))
      (jss_cons (js_set (i := 7) scNames.nd rfl (Or.inl rfl) (je_lst ja_nil))
      (jss_cons (js_for PassesOwn.never rfl (ji_range1 (by rfl) B.rng (ja_cons (jv 1) ja_nil)) (jg_name (i := 8) scNames.nd rfl (Or.inl rfl))
        (jss_cons (js_set (i := 9) scNames.nd rfl (Or.inl rfl) (je_slice sl_str (jv 3) jo_none (jo_some (je_f hT GT hr (by rfl) (ja_cons (jv 0) (ja_cons (je_op op_sub je_int (je_callB call_len_str (by rfl) B.len boot_len (ja_cons (jv 4) ja_nil))) ja_nil))))))
        (jss_one (js_expr (je_bm PySem.F.plainAttrs_list PySem.F.slot_list_append PySem.F.type_list_append mt_append (jv 7) (ja_cons
          (je_op op_add_str (je_op op_add_str (jv 4) (je_ix ix_str (jv 2) (je_op op_mod (je_op op_add (jv 5) (je_op op_mul (jv 6) (jv 8))) je_int) (fun _ _ => rfl))) (jv 9)) ja_nil))))))
      (jss_one (js_ret (jv 7))))))))), ?_⟩
    refine ⟨rfl, 7, rfl, by decide, by decide, fun D hD => ?_⟩
    have nDd : D ≠ d := fun e => by rw [e, hd] at hD; cases hD
    refine blk_range (fun i σ' H' => ∃ (v : Option V) (n' t' : Int) (ws : List Nat), σ' = [v, some (.str abc), some (.ref d)] ∧ H' d = some (.dK (src n' sd t')) ∧ H' D = some (.lst ((ws.map fun k => (⟨#[k]⟩ : Str)).map V.str)) ∧ ws.length = i ∧ ws.all letter = true ∧ Fr H d H')
      ⟨none, n, t, [], rfl, upd_keep hd hD, upd_same, rfl, rfl, Fr.refl.new hD⟩ ?_ ?_
    · rintro i σ' H' hi ⟨v, n', t', ws, rfl, hd', hD', hl, ha, fr⟩
      refine ⟨_, rfl, _, rfl, d, 26, n', sd, t', rfl, hd', by decide, by decide, fun r n3 t3 r0 r1 => ?_⟩
      refine ⟨abc, r, _, rfl, rfl, abc_len, abc_at r0 r1, _, (by rw [upd_ne nDd]; exact hD'), ?_, ?_⟩
      · rw [List.length_map, List.length_map, hl]
        exact small1000 (by omega)
      · refine ⟨_, n3, t3, ws ++ [97 + r.toNat], rfl, ?_, ?_, ?_, ?_, ?_⟩
        · rw [upd_ne (Ne.symm nDd)]; exact upd_same
        · rw [List.map_append, List.map_append]; exact upd_same
        · rw [List.length_append, hl]; rfl
        · rw [List.all_append, ha]
          simp [letter_of r0 r1]
        · exact (fr.at_d).own hD
    rintro σ' H1 ⟨v, n1, t1, ws, rfl, hd1, hD1, hl1, ha1, fr1⟩
    have hl1 : ws.length = 7 := hl1
    refine ⟨Str.ofString "", D, _, rfl, rfl, .of hD1, ?_, ?_⟩
    · have e1 : ((ws.map fun k => (⟨#[k]⟩ : Str)).map (·.length)) = (ws.map fun k => (⟨#[k]⟩ : Str)).map fun _ => 1 := by
        refine List.map_congr_left fun z hz => ?_
        obtain ⟨c, _, rfl⟩ := List.mem_map.mp hz
        rfl
      have e2 : (Str.ofString "").length = 0 := by decide +kernel
      rw [e1, e2, sum_ones, List.length_map, hl1]
      decide
    generalize hw : Txt.join (Str.ofString "") (ws.map fun k => (⟨#[k]⟩ : Str)) = wd
    have hW : wd.cps.toList = ws := by rw [← hw]; exact joined ws
    have hWl : wd.length = 7 := by
      show wd.cps.size = 7
      rw [← Array.length_toList, hW, hl1]
    refine ⟨_, rfl, _, rfl, d, 2, n1, sd, t1, rfl, hd1, by decide, by decide, fun r2 n2 t2 r20 r21 => ?_⟩
    refine ⟨_, rfl, d, 5, n2, sd, t2, rfl, upd_same, by decide, by decide, fun r3 n3 t3 r30 r31 => ?_⟩
    rw [upd_upd]
    have e4 : ∃ j : Nat, r2 * r3 = (j : Int) ∧ j ≤ 4 := by
      have h2 : r2 = 0 ∨ r2 = 1 := by omega
      rcases h2 with rfl | rfl
      · exact ⟨0, by omega, by omega⟩
      · exact ⟨r3.toNat, by omega, by omega⟩
    obtain ⟨j, ej, hj⟩ := e4
    refine ⟨_, _, rfl, rfl, .inl ⟨by omega, by omega⟩, _, rfl, wd, r2 * r3, rfl, rfl, rfl, by omega, ?_⟩
    rw [ej]
    generalize ha : Txt.slice wd none (some (j : Int)) = ah
    have hA : ah.cps.toList = ws.take j := by rw [← ha, slice_take, hW]
    have hAl : ah.length = j := by
      show ah.cps.size = j
      rw [← Array.length_toList, hA, List.length_take, hl1]
      omega
    refine ⟨_, rfl, d, 26, n3, sd, t3, rfl, upd_same, by decide, by decide, fun f n4 t4 f0 f1 => ?_⟩
    rw [upd_upd]
    refine ⟨by show 6 ≤ sizeLine; decide, fun p hp => ?_⟩
    have npd : p ≠ d := fun e => by rw [e, upd_same] at hp; cases hp
    refine ⟨_, rfl, d, 6, n4, sd, t4, rfl, (by rw [upd_ne (Ne.symm npd)]; exact upd_same), by decide, by decide, fun r5 n5 t5 r50 r51 => ?_⟩
    obtain ⟨st, hst, hsa⟩ := six_at r50 r51
    refine ⟨p, _, r5, .int st, rfl, rfl, .of (by rw [upd_ne npd]; exact upd_same), hsa, ?_⟩
    have fr5 : Fr H d (upd (upd (upd H1 d (.dK (src n4 sd t4))) p (.lst [V.int 1, V.int 3, V.int 5, V.int 7, V.int 9, V.int 11])) d (.dK (src n5 sd t5))) := (fr1.at_d.new hp).at_d
    generalize hH5 : upd (upd (upd H1 d (.dK (src n4 sd t4))) p (.lst [V.int 1, V.int 3, V.int 5, V.int 7, V.int 9, V.int 11])) d (.dK (src n5 sd t5)) = H5 at fr5
    have hd5 : H5 d = some (.dK (src n5 sd t5)) := by rw [← hH5]; exact upd_same
    refine ⟨by show 0 ≤ sizeLine; decide, fun l hl => ⟨_, rfl, m, rfl, by omega, by omega, ?_⟩⟩
    have hHl : H l = none := fr5.fresh hd5 hl
    have nld : l ≠ d := fun e => by rw [e, hd5] at hl; cases hl
    refine for_range (lo := 0) (n := m) (fun i σ' H' => ∃ (v1 v2 : Option V) (n' t' : Int) (zs : List Str), σ' = [some (.ref d), some (.int m), some (.str abc), some (.str wd), some (.str ah), some (.int f), some (.int st), some (.ref l), v1, v2] ∧
      H' d = some (.dK (src n' sd t')) ∧ H' l = some (.lst (zs.map V.str)) ∧ zs.length = i ∧ NamesTo (ws.take j) f st zs ∧ Fr H d H')
      ⟨none, none, n5, t5, [], rfl, upd_keep hd5 hl, upd_same, rfl, fun j z hz => (nomatch hz), fr5.new hl⟩ ?_ ?_
    · rintro i σ' H' hi ⟨v1, v2, n', t', zs, rfl, hd', hl', hz, hN, fr⟩
      rw [Int.zero_add]
      refine ⟨_, rfl, _, rfl, _, rfl, ah, rfl, (by rw [hAl]; exact Nat.le_of_lt (small1000 (by omega))), _, _, rfl, rfl, d, 8 - (ah.length : Int), n', sd, t', rfl, hd', by omega, by omega, fun r n6 t6 r0 r1 => ?_⟩
      have er : r = ((r.toNat : Nat) : Int) := by omega
      refine ⟨_, rfl, wd, r, rfl, rfl, rfl, by omega, ?_⟩
      generalize hb : Txt.slice wd none (some r) = bh
      have hB : bh.cps.toList = ws.take r.toNat := by rw [← hb, er, slice_take, hW]; rfl
      have hBl : bh.length ≤ r.toNat := by
        show bh.cps.size ≤ r.toNat
        rw [← Array.length_toList, hB, List.length_take]
        omega
      refine ⟨_, rfl, .inl ⟨rfl, _, .of (by rw [upd_ne nld]; exact hl')⟩, _, rfl, _, rfl, _, rfl, _, rfl, _, rfl, _, _, rfl, rfl, .inl ⟨by omega, by omega⟩, _, _, rfl, rfl, _, _, rfl, rfl, (by show (0 : Int) < 26; decide), ?_⟩
      refine ⟨abc, _, _, rfl, rfl, abc_len, abc_at (Int.emod_nonneg _ (by decide)) (Int.emod_lt_of_pos _ (by decide)), ?_⟩
      have e26 : 97 + ((f + st * (i : Int)) % 26).toNat = nth f st i := rfl
      rw [e26]
      have l1 : (ah ++ (⟨#[nth f st i]⟩ : Str)).length = j + 1 := by
        show (ah ++ (⟨#[nth f st i]⟩ : Str)).cps.size = _
        rw [Str.cps_append, Array.size_append]
        show ah.length + 1 = _
        rw [hAl]
      refine ⟨_, _, rfl, rfl, Nat.le_of_lt (small1000 (by show ah.length + 1 ≤ 1000; omega)), _, rfl, _, _, rfl, rfl, Nat.le_of_lt (small1000 (by rw [l1]; omega)), ?_⟩
      refine ⟨l, _, _, rfl, rfl, (by rw [upd_ne nld]; exact hl'), (by rw [List.length_map, hz]; exact small1000 (by omega)), ?_⟩
      refine ⟨_, _, n6, t6, zs ++ [ah ++ (⟨#[nth f st i]⟩ : Str) ++ bh], rfl, ?_, ?_, ?_, ?_, ?_⟩
      · rw [upd_ne (Ne.symm nld)]; exact upd_same
      · rw [List.map_append]; exact upd_same
      · rw [List.length_append, hz]; rfl
      · refine hN.snoc (B := ws.take r.toNat) ?_ (all_take ha1 _) ?_
        · rw [Str.cps_append, Str.cps_append, Array.toList_append, Array.toList_append, hA, hB, hz]
        · rw [List.length_take, List.length_take]
          omega
      · exact fr.at_d.own hHl
    · rintro σ' H' ⟨v1, v2, n', t', zs, rfl, hd', hl', hz, hN, fr⟩
      exact ⟨_, rfl, q l zs n' t' H' hHl hl' hz (hN.names (all_take ha1 _)) (hN.nodup hst (by omega)) hd' fr⟩
end
end Rh
set_option Elab.async false
set_option linter.all false
set_option maxRecDepth 100000
set_option maxHeartbeats 4000000
namespace Rh
open PySem L2 PyProof.Rows
def Tst (t : TT) (σ : L2.St) (H : Hp) : Prop := ∀ Q : Bool → Hp → Prop, (∀ b, Q b H) → t σ H Q
theorem Tst.and {t u : TT} {σ : L2.St} {H : Hp} (h : Tst t σ H) (k : Tst u σ H) : Tst (tAnd t u) σ H := fun Q q => h _ fun b => by
  cases b
  · exact iteF (q false)
  · exact iteT (k _ q)
theorem Tst.or {t u : TT} {σ : L2.St} {H : Hp} (h : Tst t σ H) (k : Tst u σ H) : Tst (tOr t u) σ H := fun Q q => h _ fun b => by
  cases b
  · exact iteF (k _ q)
  · exact iteT (q true)
theorem if_put {tc : TT} {tp : TS} {D : Ends} {σ : L2.St} {H0 : Hp} (G : Hp → Prop) (h : G H0) (ht : Tst tc σ H0) (hp : ∀ D : Ends, (∀ H', G H' → D.nx σ H') → tp D σ H0) (k : ∀ H', G H' → D.nx σ H') : tIfS tc tp tNext D σ H0 :=
  ht _ fun b => by
    cases b
    · exact iteF (k _ h)
    · exact iteT (hp D k)
theorem if_putS {tc : TT} {tp u : TS} {D : Ends} {σ : L2.St} {H0 : Hp} (G : Hp → Prop) (h : G H0) (ht : Tst tc σ H0) (hp : ∀ D : Ends, (∀ H', G H' → D.nx σ H') → tp D σ H0) (k : ∀ H', G H' → u D σ H') : tSeq (tIfS tc tp tNext) u D σ H0 := if_put G h ht hp k
theorem gName_is {i : Nat} {v : V} {σ : L2.St} {H : Hp} {Q : L2.St → Hp → Prop} (h : Q (σ.set i (some v)) H) : gName i v σ H Q := h
abbrev up (k : Nat × Nat) : Int × Int := ((k.1 : Int), (k.2 : Int))
def ltN (a b : Nat × Nat) : Prop := a.1 < b.1 ∨ (a.1 = b.1 ∧ a.2 < b.2)
abbrev keysOf (ks : List (Nat × Nat)) : List (List Key) := ks.map fun k => pairK (up k)
theorem pairK_inj {a b : Nat × Nat} (h : pairK (up a) = pairK (up b)) : a = b := by
  unfold pairK at h
  simp only [List.cons.injEq, Sum.inl.injEq, and_true] at h
  exact Prod.ext (by have := h.1; omega) (by have := h.2; omega)
structure Ahead (m i j : Nat) (ks : List (Nat × Nat)) : Prop where
  ord : ks.Pairwise ltN
  lt : ∀ x ∈ ks, x.2 < m ∧ (x.1 < i ∨ (x.1 = i ∧ x.2 < j))
  len : ks.length ≤ i * m + j
theorem Ahead.more {m i j : Nat} {ks : List (Nat × Nat)} (h : Ahead m i j ks) : Ahead m i (j + 1) ks := ⟨h.ord, fun x hx => by have := h.lt x hx; omega, by have := h.len; omega⟩
theorem Ahead.snoc {m i j : Nat} {ks : List (Nat × Nat)} (h : Ahead m i j ks) (hj : j < m) : Ahead m i (j + 1) (ks ++ [(i, j)]) := by
  refine ⟨List.pairwise_append.mpr ⟨h.ord, List.pairwise_singleton _ _, fun a ha b hb => ?_⟩, fun x hx => ?_, ?_⟩
  · rw [List.mem_singleton.mp hb]
    have := h.lt a ha
    unfold ltN
    omega
  · rcases List.mem_append.mp hx with hx | hx
    · have := h.lt x hx
      omega
    · rw [List.mem_singleton.mp hx]
      exact ⟨hj, .inr ⟨rfl, Nat.lt_succ_self _⟩⟩
  · rw [List.length_append]
    have := h.len
    show ks.length + 1 ≤ _
    omega
theorem Ahead.row {m i : Nat} {ks : List (Nat × Nat)} (h : Ahead m i m ks) : Ahead m (i + 1) 0 ks := ⟨h.ord, fun x hx => by have := h.lt x hx; omega, by have := h.len; rw [Nat.succ_mul]; omega⟩
def Mid (m i j : Nat) (kvs : List (List Key × V)) : Prop := ∃ ks, Ahead m i j ks ∧ (kvs.map (·.1) = keysOf ks ∨ kvs.map (·.1) = keysOf (ks ++ [(i, j)]))
theorem any_key (kvs : List (List Key × V)) (k : List Key) : ((kvs.any fun kv => decide (kv.1 = k)) = true) ↔ k ∈ kvs.map (·.1) := by
  rw [List.any_eq_true, List.mem_map]
  simp
theorem keys_in {kvs : List (List Key × V)} {k : List Key} (v : V) (h : k ∈ kvs.map (·.1)) : (putK kvs k v).map (·.1) = kvs.map (·.1) := by
  unfold putK
  rw [if_pos ((any_key kvs k).mpr h), List.map_map]
  refine List.map_congr_left fun x _ => ?_
  show (if x.1 = k then (x.1, v) else x).1 = x.1
  split <;> rfl
theorem keys_new {kvs : List (List Key × V)} {k : List Key} (v : V) (h : ¬ k ∈ kvs.map (·.1)) : (putK kvs k v).map (·.1) = kvs.map (·.1) ++ [k] := by
  unfold putK
  rw [if_neg (fun z => h ((any_key kvs k).mp z)), List.map_append]
  rfl
theorem Mid.put {m i j : Nat} {kvs : List (List Key × V)} (h : Mid m i j kvs) (v : V) : Mid m i j (putK kvs (pairK (up (i, j))) v) := by
  obtain ⟨ks, ha, h⟩ := h
  refine ⟨ks, ha, .inr ?_⟩
  rcases h with h | h
  · rw [keys_new, h, keysOf, keysOf, List.map_append]
    · rfl
    · rw [h]
      intro z
      obtain ⟨x, hx, e⟩ := List.mem_map.mp z
      have e' := pairK_inj e
      have := ha.lt x hx
      rw [e'] at this
      omega
  · rw [keys_in, h]
    rw [h]
    exact List.mem_map.mpr ⟨(i, j), by simp, rfl⟩
theorem Mid.len {m i j : Nat} {kvs : List (List Key × V)} (h : Mid m i j kvs) : kvs.length ≤ i * m + j + 1 := by
  obtain ⟨ks, ha, h⟩ := h
  have hl := ha.len
  rcases h with h | h
  · have := congrArg List.length h
    simp only [List.length_map] at this
    omega
  · have := congrArg List.length h
    simp only [List.length_map, List.length_append, List.length_singleton] at this
    omega
theorem sq_le {i m : Nat} (hi : i ≤ m) (hm : m ≤ 14) : i * m ≤ 196 := Nat.le_trans (Nat.mul_le_mul (Nat.le_trans hi hm) hm) (by decide)
theorem cut40 (xs : List V) : cutV xs none (some 40) = xs.take 40 := by
  unfold cutV
  have e1 : HT.sIx xs.length 0 none = 0 := rfl
  have e2 : HT.sIx xs.length xs.length (some 40) = min 40 xs.length := by
    simp [HT.sIx]
  rw [e1, e2, List.drop_zero, Nat.sub_zero]
  by_cases h : 40 ≤ xs.length
  · rw [Nat.min_eq_left h]
  · rw [Nat.min_eq_right (by omega), List.take_of_length_le (Nat.le_refl _), List.take_of_length_le (by omega)]
def PairsAt (H : Hp) (ps : List Addr) (ks : List (Nat × Nat)) : Prop := ps.length = ks.length ∧ ∀ (i : Nat) (p : Addr) (k : Nat × Nat), ps[i]? = some p → ks[i]? = some k → H p = some (.tup [.int (k.1 : Nat), .int (k.2 : Nat)])
def spLeads : Sp := fun vs H Q _ => ∃ (d : Addr) (m : Nat) (n s t sh lo : Int), vs = [.ref d, .int m, .int sh, .int lo] ∧ H d = some (.dK (src n s t)) ∧ m ≤ 14 ∧
  ∀ (l : Addr) (ps : List Addr) (ks : List (Nat × Nat)) (n' t' : Int) (H' : Hp), H l = none → H' l = some (.lst (ps.map V.ref)) → PairsAt H' ps ks → ks.Pairwise ltN → (∀ x ∈ ks, x.1 < m ∧ x.2 < m) → ks.length ≤ 40 → H' d = some (.dK (src n' s t')) → Fr H d H' → Q (.ref l) H'
section
variable {P : Program} {w : World} {K : PySem.W.Frag} {mg : Str → Option Value} {base : Heap}
abbrev nLeads : List Str := ["_law_source_here", "_law_many", "_law_shape", "_law_low", "_law_pairs", "_law_k", "_law_j", "_law_way"]
abbrev pLeads : List Str := ["_law_source_here", "_law_many", "_law_shape", "_law_low"]
theorem scLeads : FnScope nLeads pLeads (defScope sLeads) := ⟨rfl, rfl, rfl, by decide +kernel, rfl, by decide +kernel, by decide +kernel⟩
theorem ok_leads {f fT : Addr} {fd fdT : FuncData} (F : Fun K "_law_leads" "_law_leads" sLeads f fd) (B : Blt mg) (hso : mg "sorted" = none) (hT : Has K mg "_law_take" sTake ["_law_source_here", "_law_many"] fT fdT) : FnOk P w K mg base CX0 2 f fd pLeads spLeads := by
  have GT : FnOk P w K mg base CX0 1 fT fdT ["_law_source_here", "_law_many"] spTake := ok_take hT.fn
  refine F.okJ scLeads (fun vs H Q E h => ?_) (fun cdv A outer s H vs Q E hr h => ?_)
  · obtain ⟨d, m, n, sd, t, sh, lo, rfl, _⟩ := h
    rfl
  · obtain ⟨d, m, n, sd, t, sh, lo, rfl, hd, hm, q⟩ := h
    have hu := hu_of hr
    refine ⟨_, jss_cons (js_set (i := 4) scLeads.nd rfl (Or.inl rfl) je_dnewT)
      (jss_cons (js_for PassesOwn.never rfl (ji_range1 (by rfl) B.rng (ja_cons (jv 1) ja_nil)) (jg_name (i := 5) scLeads.nd rfl (Or.inl rfl))
        (jss_one (js_for PassesOwn.never rfl (ji_range1 (by rfl) B.rng (ja_cons (jv 1) ja_nil)) (jg_name (i := 6) scLeads.nd rfl (Or.inl rfl))
          (jss_cons (js_set (i := 7) scLeads.nd rfl (Or.inl rfl) (je_f hT GT hr (by rfl) (ja_cons (jv 0) (ja_cons je_int ja_nil))))
          (jss_cons (js_if (jw_and (jt_cmpR op_eq (jv 2) je_int (nomark _)) (jw_and1 (jw_or (jw_and (jt_cmpR op_lt (jv 6) (jv 5) (nomark _)) (jw_and1 (jt_cmpR op_lt (jv 7) je_int (nomark _)))).pt (jw_or1 (jw_and (jt_cmpR op_ge (jv 6) (jv 5) (nomark _)) (jw_and1 (jt_cmpR op_lt (jv 7) je_int (nomark _)))).pt)).pt)).pt
            (jss_one (js_dput hu (jv 4) (je_tup (ja_cons (jv 5) (ja_cons (jv 6) ja_nil))) je_bl rfl)) jss_nil)
          (jss_cons (js_if (jw_and (jt_cmpR op_eq (jv 2) je_int (nomark _)) (jw_and1 (jt_cmpR op_lt (jv 7) je_int (nomark _)))).pt
            (jss_one (js_dput hu (jv 4) (je_tup (ja_cons (jv 5) (ja_cons (jv 6) ja_nil))) je_bl rfl)) jss_nil)
          (jss_cons (js_if (jw_and (jt_cmpR op_eq (jv 2) je_int (nomark _)) (jw_and1 (jw_or (jw_and (jt_cmpR op_eq (jv 6) (je_op op_mod (je_op op_add (jv 5) je_int) (jv 1)) (nomark _)) (jw_and1 (jt_cmpR op_lt (jv 7) je_int (nomark _)))).pt (jw_or1 (jt_cmpR op_lt (jv 7) je_int (nomark _)))).pt)).pt
            (jss_one (js_dput hu (jv 4) (je_tup (ja_cons (jv 5) (ja_cons (jv 6) ja_nil))) je_bl rfl)) jss_nil)
          (jss_cons (js_if (jw_and (jt_cmpR op_eq (jv 2) je_int (nomark _)) (jw_and (jt_cmpR op_lt (jv 6) (jv 5) (nomark _)) (jw_and1 (jw_or (jt_cmpR op_lt (jv 6) (jv 3) (nomark _)) (jw_or1 (jt_cmpR op_lt (jv 7) je_int (nomark _)))).pt))).pt
            (jss_one (js_dput hu (jv 4) (je_tup (ja_cons (jv 5) (ja_cons (jv 6) ja_nil))) je_bl rfl)) jss_nil)
          (jss_one (js_if (jw_and (jt_cmpR op_eq (jv 2) je_int (nomark _)) (jw_and1 (jw_or (jw_and (jt_cmpR op_lt (jv 6) (jv 3) (nomark _)) (jw_and1 (jt_cmpR op_lt (jv 6) (jv 5) (nomark _)))).pt (jw_or1 (jw_and (jt_cmpR op_ge (jv 5) (jv 3) (nomark _)) (jw_and1 (jt_cmpR op_lt (jv 7) je_int (nomark _)))).pt)).pt)).pt
            (jss_one (js_dput hu (jv 4) (je_tup (ja_cons (jv 5) (ja_cons (jv 6) ja_nil))) je_bl rfl)) jss_nil)))))))))
        )
      (jss_one (js_ret (je_slice sl_list (je_callB (call_sortD rfl) (by rfl) hso boot_sorted (ja_cons (jv 4) ja_nil)) jo_none (jo_some je_int))))), ?_⟩
    intro D hD
    have nDd : D ≠ d := fun e => by rw [e, hd] at hD; cases hD
    refine ⟨_, rfl, m, rfl, by omega, by omega, ?_⟩
    refine for_range (lo := 0) (n := m) (fun i σ' H' => ∃ (v1 v2 v3 : Option V) (n' t' : Int) (kvs : List (List Key × V)) (ks : List (Nat × Nat)), σ' = [some (.ref d), some (.int m), some (.int sh), some (.int lo), some (.ref D), v1, v2, v3] ∧
      H' d = some (.dK (src n' sd t')) ∧ H' D = some (.dT kvs) ∧ kvs.map (·.1) = keysOf ks ∧ Ahead m i 0 ks ∧ Fr H d H')
      ⟨none, none, none, n, t, [], [], rfl, upd_keep hd hD, upd_same, rfl, ⟨.nil, fun x hx => (nomatch hx), Nat.zero_le _⟩, Fr.refl.new hD⟩ ?_ ?_
    · rintro i σ' H' hi ⟨v1, v2, v3, n', t', kvs, ks, rfl, hd', hD', ek, ha, fr⟩
      rw [Int.zero_add]
      refine ⟨_, rfl, m, rfl, by omega, by omega, ?_⟩
      refine for_range (lo := 0) (n := m) (fun j σ' H' => ∃ (v2 v3 : Option V) (n' t' : Int) (kvs : List (List Key × V)) (ks : List (Nat × Nat)), σ' = [some (.ref d), some (.int m), some (.int sh), some (.int lo), some (.ref D), some (.int i), v2, v3] ∧
        H' d = some (.dK (src n' sd t')) ∧ H' D = some (.dT kvs) ∧ kvs.map (·.1) = keysOf ks ∧ Ahead m i j ks ∧ Fr H d H')
        ⟨_, _, n', t', kvs, ks, rfl, hd', hD', ek, ha, fr⟩ ?_ ?_
      · rintro j σ' H2 hj ⟨v2, v3, n2, t2, kvs, ks, rfl, hd2, hD2, ek, ha, fr⟩
        rw [Int.zero_add]
        refine ⟨_, rfl, d, 12, n2, sd, t2, rfl, hd2, by decide, by decide, fun r n3 t3 r0 r1 => ?_⟩
        have hsq := sq_le (Nat.le_of_lt hi) hm
        let G : Hp → Prop := fun H' => ∃ (kvs : List (List Key × V)), H' d = some (.dK (src n3 sd t3)) ∧ H' D = some (.dT kvs) ∧ Mid m i j kvs ∧ Fr H d H'
        have g0 : G (upd H2 d (.dK (src n3 sd t3))) := ⟨kvs, upd_same, (by rw [upd_ne nDd]; exact hD2), ⟨ks, ha, .inl ek⟩, fr.at_d⟩
        have put : ∀ H', G H' → ∀ E : Ends, (∀ H', G H' → E.nx [some (.ref d), some (.int m), some (.int sh), some (.int lo), some (.ref D), some (.int i), some (.int j), some (.int r)] H') →
            sDPut (tVar 4) (tTup (tCons (tVar 5) (tCons (tVar 6) tNil))) (tC (.bl true)) E [some (.ref d), some (.int m), some (.int sh), some (.int lo), some (.ref D), some (.int i), some (.int j), some (.int r)] H' := by
          rintro H' ⟨kvs, h1, h2, h3, h4⟩ E k
          refine ⟨_, rfl, _, rfl, _, rfl, by show 2 ≤ sizeLine; decide, fun p hp => ?_⟩
          have npd : p ≠ d := fun e => by rw [e, h1] at hp; cases hp
          have npD : p ≠ D := fun e => by rw [e, h2] at hp; cases hp
          refine ⟨D, _, rfl, DPut.t (k := pairK (up (i, j))) (kvs := kvs) (by rw [upd_ne (Ne.symm npD)]; exact h2) upd_same (small1000 (by have := h3.len; omega)), ?_⟩
          refine k _ ⟨_, ?_, upd_same, h3.put _, ?_⟩
          · rw [upd_ne (Ne.symm nDd), upd_ne (Ne.symm npd)]
            exact h1
          · exact (h4.new hp).own hD
        refine gName_is ?_
        dsimp only [List.set]
        refine if_putS G g0 ?_ (put _ g0) fun H3 g3 => ?_
        · exact Tst.and (fun Q q => ⟨_, rfl, rfl, _, rfl, q _⟩) (.or (.and (fun Q q => ⟨_, rfl, _, rfl, _, _, rfl, rfl, _, rfl, q _⟩) (fun Q q => ⟨_, rfl, _, _, rfl, rfl, _, rfl, q _⟩)) (.and (fun Q q => ⟨_, rfl, _, rfl, _, _, rfl, rfl, _, rfl, q _⟩) (fun Q q => ⟨_, rfl, _, _, rfl, rfl, _, rfl, q _⟩)))
        refine if_putS G g3 ?_ (put _ g3) fun H4 g4 => ?_
        · exact Tst.and (fun Q q => ⟨_, rfl, rfl, _, rfl, q _⟩) (fun Q q => ⟨_, rfl, _, _, rfl, rfl, _, rfl, q _⟩)
        refine if_putS G g4 ?_ (put _ g4) fun H5 g5 => ?_
        · exact Tst.and (fun Q q => ⟨_, rfl, rfl, _, rfl, q _⟩) (.or (.and (fun Q q => ⟨_, rfl, _, rfl, _, _, rfl, rfl, _, rfl, _, _, rfl, rfl, (by show (0 : Int) < m; omega), rfl, _, rfl, q _⟩) (fun Q q => ⟨_, rfl, _, _, rfl, rfl, _, rfl, q _⟩)) (fun Q q => ⟨_, rfl, _, _, rfl, rfl, _, rfl, q _⟩))
        refine if_putS G g5 ?_ (put _ g5) fun H6 g6 => ?_
        · exact Tst.and (fun Q q => ⟨_, rfl, rfl, _, rfl, q _⟩) (.and (fun Q q => ⟨_, rfl, _, rfl, _, _, rfl, rfl, _, rfl, q _⟩) (.or (fun Q q => ⟨_, rfl, _, rfl, _, _, rfl, rfl, _, rfl, q _⟩) (fun Q q => ⟨_, rfl, _, _, rfl, rfl, _, rfl, q _⟩)))
        refine if_put G g6 ?_ (put _ g6) fun H7 g7 => ?_
        · exact Tst.and (fun Q q => ⟨_, rfl, rfl, _, rfl, q _⟩) (.or (.and (fun Q q => ⟨_, rfl, _, rfl, _, _, rfl, rfl, _, rfl, q _⟩) (fun Q q => ⟨_, rfl, _, rfl, _, _, rfl, rfl, _, rfl, q _⟩)) (.and (fun Q q => ⟨_, rfl, _, rfl, _, _, rfl, rfl, _, rfl, q _⟩) (fun Q q => ⟨_, rfl, _, _, rfl, rfl, _, rfl, q _⟩)))
        obtain ⟨kvs, h1, h2, ⟨ks, ha, h3⟩, h4⟩ := g7
        rcases h3 with h3 | h3
        · exact ⟨_, _, n3, t3, kvs, ks, rfl, h1, h2, h3, ha.more, h4⟩
        · exact ⟨_, _, n3, t3, kvs, _, rfl, h1, h2, h3, ha.snoc hj, h4⟩
      · rintro σ' H2 ⟨v2, v3, n2, t2, kvs, ks, rfl, hd2, hD2, ek, ha, fr⟩
        exact ⟨_, _, _, n2, t2, kvs, ks, rfl, hd2, hD2, ek, ha.row, fr⟩
    · rintro σ' H1 ⟨v1, v2, v3, n1, t1, kvs, ks, rfl, hd1, hD1, ek, ha, fr⟩
      have hl : kvs.length = ks.length := by simpa using congrArg List.length ek
      have hsq := sq_le (Nat.le_refl m) hm
      have hal := ha.len
      refine ⟨_, rfl, D, kvs, ks.map up, rfl, hD1, ?_, ?_, by omega, fun l ps hfl lps tup => ?_⟩
      · rw [ek, List.map_map]
        rfl
      · intro i k k' e1 e2
        rw [List.getElem?_map] at e1 e2
        cases e3 : ks[i]? with
        | none => rw [e3] at e1; cases e1
        | some a =>
          cases e4 : ks[i + 1]? with
          | none => rw [e4] at e2; cases e2
          | some b =>
            rw [e3] at e1
            rw [e4] at e2
            obtain rfl := (Option.some.inj e1).symm
            obtain rfl := (Option.some.inj e2).symm
            have h5 := List.pairwise_iff_getElem.mp ha.ord i (i + 1) (List.getElem?_eq_some_iff.mp e3).1 (List.getElem?_eq_some_iff.mp e4).1 (Nat.lt_succ_self _)
            rw [(List.getElem?_eq_some_iff.mp e3).2, (List.getElem?_eq_some_iff.mp e4).2] at h5
            unfold ltN at h5
            show lexLt2 _ _
            unfold lexLt2
            show (a.1 : Int) < b.1 ∨ ((a.1 : Int) = b.1 ∧ (a.2 : Int) < b.2)
            omega
      · refine ⟨40, rfl, l, _, rfl, .of upd_same, fun l2 hl2 => ?_⟩
        rw [cut40, ← List.map_take]
        have n2d : l2 ≠ d := fun e => by
          rw [e, upd_keep hd1 hfl] at hl2
          cases hl2
        have hl1 : H1 l2 = none := by
          by_cases e : l2 = l
          · rw [e]; exact hfl
          · rw [upd_ne e] at hl2; exact hl2
        have fr2 := (fr.new (o := .lst (ps.map V.ref)) hfl).new (o := .lst ((ps.take 40).map V.ref)) hl2
        refine q l2 (ps.take 40) (ks.take 40) n1 t1 _ (fr.fresh hd1 hl1) upd_same ⟨?_, fun i p k e1 e2 => ?_⟩ ?_ ?_ ?_ ?_ fr2
        · rw [List.length_take, List.length_take, lps, List.length_map]
        · have i40 : i < 40 := by
            have := (List.getElem?_eq_some_iff.mp e1).1
            rw [List.length_take] at this
            omega
          rw [List.getElem?_take_of_lt i40] at e1 e2
          have h1 := tup i p (up k) e1 (by rw [List.getElem?_map, e2]; rfl)
          exact upd_keep (upd_keep h1 hfl) hl2
        · exact ha.ord.sublist (List.take_sublist _ _)
        · intro x hx
          have := ha.lt x (List.mem_of_mem_take hx)
          omega
        · rw [List.length_take]
          omega
        · exact upd_keep (upd_keep hd1 hfl) hl2
end
end Rh
set_option Elab.async false
set_option linter.all false
set_option maxRecDepth 100000
set_option maxHeartbeats 4000000
namespace Rh
open PySem L2 PyProof.Rows
structure GoodRows (rs : List (Str × List Str)) : Prop where
  nm : ∀ r ∈ rs, isName r.1 = true
  nd : (rs.map (·.1)).Nodup
  to : ∀ r ∈ rs, ∀ z ∈ r.2, z ∈ rs.map (·.1)
  rd : ∀ r ∈ rs, r.2.Nodup
  few : (rs.map fun r => r.2.length).sum ≤ 40
def zAt (zs : List Str) (j : Nat) : Str := zs.getD j ⟨#[]⟩
theorem zAt_mem {zs : List Str} {j : Nat} (h : j < zs.length) : zAt zs j ∈ zs := by
  unfold zAt
  rw [List.getD_eq_getElem?_getD, List.getElem?_eq_getElem h]
  exact List.getElem_mem h
theorem zAt_get {zs : List Str} {j : Nat} (h : j < zs.length) : zs[j]? = some (zAt zs j) := by
  unfold zAt
  rw [List.getD_eq_getElem?_getD, List.getElem?_eq_getElem h]
  rfl
theorem zAt_inj {zs : List Str} (hn : zs.Nodup) {i j : Nat} (hi : i < zs.length) (hj : j < zs.length) (h : zAt zs i = zAt zs j) : i = j := by
  have h1 := zAt_get hi
  have h2 := zAt_get hj
  rw [h, ← h2, List.getElem?_eq_getElem hi, List.getElem?_eq_getElem hj] at h1
  have e : zs[i] = zs[j] := Option.some.inj h1
  rcases Nat.lt_trichotomy i j with l | l | l
  · exact absurd e (List.pairwise_iff_getElem.mp hn i j hi hj l)
  · exact l
  · exact absurd e.symm (List.pairwise_iff_getElem.mp hn j i hj hi l)
theorem nodup_map {α β : Type} {f : α → β} : ∀ {l : List α}, l.Nodup → (∀ a ∈ l, ∀ b ∈ l, f a = f b → a = b) → (l.map f).Nodup
  | [], _, _ => List.nodup_nil
  | a :: l, h, k => by
    rw [List.map_cons, List.nodup_cons]
    rw [List.nodup_cons] at h
    refine ⟨fun z => ?_, nodup_map h.2 fun x hx y hy => k x (List.mem_cons_of_mem _ hx) y (List.mem_cons_of_mem _ hy)⟩
    obtain ⟨b, hb, e⟩ := List.mem_map.mp z
    have := k b (List.mem_cons_of_mem _ hb) a (List.mem_cons_self) e
    subst this
    exact h.1 hb
def toN (ks : List (Nat × Nat)) (k : Nat) : List Nat := (ks.filter fun x => decide (x.1 = k)).map (·.2)
theorem toN_nodup {ks : List (Nat × Nat)} (h : ks.Pairwise ltN) (k : Nat) : (toN ks k).Nodup := by
  have h1 : (ks.filter fun x => decide (x.1 = k)).Pairwise ltN := h.sublist (List.filter_sublist)
  refine List.pairwise_map.mpr (List.Pairwise.imp_of_mem (fun {a b} ha hb r => ?_) h1)
  have e1 : a.1 = k := of_decide_eq_true (List.mem_filter.mp ha).2
  have e2 : b.1 = k := of_decide_eq_true (List.mem_filter.mp hb).2
  unfold ltN at r
  omega
theorem toN_lt {ks : List (Nat × Nat)} {m : Nat} (h : ∀ x ∈ ks, x.1 < m ∧ x.2 < m) (k : Nat) : ∀ j ∈ toN ks k, j < m := fun j hj => by
  obtain ⟨x, hx, e⟩ := List.mem_map.mp hj
  have := (h x (List.mem_filter.mp hx).1).2
  omega
theorem sum_add (os : List Nat) (f g : Nat → Nat) : (os.map fun k => f k + g k).sum = (os.map f).sum + (os.map g).sum := by
  induction os with
  | nil => rfl
  | cons a os ih =>
    simp only [List.map_cons, List.sum_cons, ih]
    omega
theorem sum_one {os : List Nat} (h : os.Nodup) (a : Nat) : (os.map fun k => if a = k then 1 else 0).sum ≤ 1 := by
  induction os with
  | nil => exact Nat.zero_le _
  | cons b os ih =>
    rw [List.nodup_cons] at h
    rw [List.map_cons, List.sum_cons]
    by_cases e : a = b
    · subst e
      have z : (os.map fun k => if a = k then 1 else 0) = os.map fun _ => 0 := List.map_congr_left fun k hk => by
        rw [if_neg]
        intro e
        subst e
        exact h.1 hk
      rw [z, if_pos rfl]
      have : (os.map fun _ => 0).sum = 0 := by
        clear z ih h
        induction os with
        | nil => rfl
        | cons c os ih => rw [List.map_cons, List.sum_cons, ih]
      omega
    · rw [if_neg e]
      have := ih h.2
      omega
theorem toN_sum {os : List Nat} (h : os.Nodup) : ∀ ks : List (Nat × Nat), (os.map fun k => (toN ks k).length).sum ≤ ks.length
  | [] => by
    have : (os.map fun k => (toN [] k).length).sum = 0 := by
      clear h
      induction os with
      | nil => rfl
      | cons c os ih => rw [List.map_cons, List.sum_cons, ih]; rfl
    omega
  | x :: ks => by
    have e : (os.map fun k => (toN (x :: ks) k).length) = os.map fun k => (if x.1 = k then 1 else 0) + (toN ks k).length := List.map_congr_left fun k _ => by
      unfold toN
      rw [List.filter_cons]
      by_cases z : x.1 = k
      · rw [if_pos (decide_eq_true z), if_pos z]
        simp only [List.map_cons, List.length_cons]
        omega
      · rw [if_neg (by simpa using z), if_neg z, Nat.zero_add]
    rw [e, sum_add, List.length_cons]
    have := sum_one h x.1
    have := toN_sum h ks
    omega
def rowOf (zs : List Str) (ks : List (Nat × Nat)) (ab : Bool) (k : Nat) : Str × List Str :=
  (zAt zs k, if ab = true then ((toN ks k).map (zAt zs)).reverse else (toN ks k).map (zAt zs))
theorem rowOf_mem {zs : List Str} {ks : List (Nat × Nat)} {ab : Bool} {k : Nat} {z : Str} : z ∈ (rowOf zs ks ab k).2 ↔ z ∈ (toN ks k).map (zAt zs) := by
  unfold rowOf
  cases ab
  · rw [if_neg Bool.false_ne_true]
  · rw [if_pos rfl, List.mem_reverse]
theorem rowOf_len {zs : List Str} {ks : List (Nat × Nat)} {ab : Bool} {k : Nat} : (rowOf zs ks ab k).2.length = (toN ks k).length := by
  unfold rowOf
  cases ab
  · rw [if_neg Bool.false_ne_true, List.length_map]
  · rw [if_pos rfl, List.length_reverse, List.length_map]
structure Order (m : Nat) (os : List Nat) : Prop where
  len : os.length = m
  nd : os.Nodup
  lt : ∀ k ∈ os, k < m
  all : ∀ j, j < m → j ∈ os
theorem good_rows {zs : List Str} {ks : List (Nat × Nat)} {os : List Nat} {m : Nat} (ab : Bool) (hz : zs.length = m) (hN : ∀ z ∈ zs, isName z = true) (hd : zs.Nodup) (hk : ks.Pairwise ltN) (hl : ∀ x ∈ ks, x.1 < m ∧ x.2 < m) (h40 : ks.length ≤ 40) (ho : Order m os) :
    GoodRows (os.map (rowOf zs ks ab)) := by
  have e1 : (os.map (rowOf zs ks ab)).map (·.1) = os.map (zAt zs) := by rw [List.map_map]; rfl
  have inj : ∀ a ∈ os, ∀ b ∈ os, zAt zs a = zAt zs b → a = b := fun a ha b hb e => zAt_inj hd (by rw [hz]; exact ho.lt a ha) (by rw [hz]; exact ho.lt b hb) e
  refine ⟨fun r hr => ?_, ?_, fun r hr z hz' => ?_, fun r hr => ?_, ?_⟩
  · obtain ⟨k, hk', rfl⟩ := List.mem_map.mp hr
    exact hN _ (zAt_mem (by rw [hz]; exact ho.lt k hk'))
  · rw [e1]
    exact nodup_map ho.nd inj
  · obtain ⟨k, hk', rfl⟩ := List.mem_map.mp hr
    rw [rowOf_mem] at hz'
    obtain ⟨j, hj, rfl⟩ := List.mem_map.mp hz'
    rw [e1]
    exact List.mem_map.mpr ⟨j, ho.all j (toN_lt hl k j hj), rfl⟩
  · obtain ⟨k, hk', rfl⟩ := List.mem_map.mp hr
    have h1 : ((toN ks k).map (zAt zs)).Nodup := nodup_map (toN_nodup hk k) fun a ha b hb e => zAt_inj hd (by rw [hz]; exact toN_lt hl k a ha) (by rw [hz]; exact toN_lt hl k b hb) e
    show (if ab = true then _ else _ : List Str).Nodup
    cases ab
    · rw [if_neg Bool.false_ne_true]
      exact h1
    · rw [if_pos rfl]
      exact List.pairwise_reverse.mpr (h1.imp fun h => Ne.symm h)
  · have e2 : ((os.map (rowOf zs ks ab)).map fun r => r.2.length) = os.map fun k => (toN ks k).length := by
      rw [List.map_map]
      exact List.map_congr_left fun k _ => rowOf_len
    rw [e2]
    exact Nat.le_trans (toN_sum ho.nd ks) h40
theorem order_up (m : Nat) : Order m (List.range m) := ⟨List.length_range, List.nodup_range, fun k h => List.mem_range.mp h, fun j h => List.mem_range.mpr h⟩
theorem order_down (m : Nat) : Order m (downN m) := ⟨by rw [downN, List.length_reverse, List.length_range], List.pairwise_reverse.mpr (List.nodup_range.imp fun h => Ne.symm h), fun k h => List.mem_range.mp (List.mem_reverse.mp h), fun j h => List.mem_reverse.mpr (List.mem_range.mpr h)⟩
def fives (m : Nat) : List Nat := (List.range m).map fun k => k * 5 % m
theorem fives_all : ∀ m, m < 15 → (fives m).Nodup → ∀ j, j < m → j ∈ fives m := by decide +kernel
theorem order_fives {m : Nat} (hm : m ≤ 14) (h0 : 0 < m) (h : (fives m).Nodup) : Order m (fives m) :=
  ⟨by rw [fives, List.length_map, List.length_range], h, fun k hk => by obtain ⟨x, _, rfl⟩ := List.mem_map.mp hk; exact Nat.mod_lt _ h0, fives_all m (by omega) h⟩
theorem met_nodup (val : Nat → Int) : ∀ i, (firstMet val i).length = i → ((List.range i).map val).Nodup
  | 0, _ => List.nodup_nil
  | i + 1, h => by
    have h1 := firstMet_any val i (val i)
    have h2 := firstMet_length_le val i
    rw [firstMet_succ] at h
    unfold step_dedup at h
    split at h
    · omega
    · rename_i z
      rw [List.length_append, List.length_singleton] at h
      rw [List.range_succ, List.map_append, List.nodup_append]
      refine ⟨met_nodup val i (by omega), by simp, fun a ha b hb e => ?_⟩
      have eb : b = val i := by simpa using hb
      subst eb
      subst e
      refine z ?_
      rw [h1, List.any_eq_true]
      exact ⟨_, ha, by simp⟩
theorem met_of {os : List Nat} (h : ¬ (firstMet (fun i => (os.map fun k => ((k : Nat) : Int)).getD i 0) (os.map fun k => ((k : Nat) : Int)).length).length < os.length) : os.Nodup := by
  have h1 := firstMet_length_le (fun i => (os.map fun k => ((k : Nat) : Int)).getD i 0) (os.map fun k => ((k : Nat) : Int)).length
  have h2 := met_nodup (fun i => (os.map fun k => ((k : Nat) : Int)).getD i 0) (os.map fun k => ((k : Nat) : Int)).length (by rw [List.length_map] at h1 h ⊢; omega)
  have e : (List.range (os.map fun k => ((k : Nat) : Int)).length).map (fun i => (os.map fun k => ((k : Nat) : Int)).getD i 0) = os.map fun k => ((k : Nat) : Int) := by
    refine List.ext_getElem? fun i => ?_
    rw [List.getElem?_map]
    by_cases hi : i < (os.map fun k => ((k : Nat) : Int)).length
    · rw [List.getElem?_range hi, List.getElem?_eq_getElem hi]
      simp only [Option.map_some, List.getD_eq_getElem?_getD, List.getElem?_eq_getElem hi, Option.getD_some]
    · rw [List.getElem?_eq_none (by rw [List.length_range]; omega), List.getElem?_eq_none (by omega)]
      rfl
  rw [e] at h2
  refine (List.pairwise_map.mp h2).imp fun h e => h (by rw [e])
end Rh
set_option Elab.async false
set_option linter.all false
set_option maxRecDepth 100000
set_option maxHeartbeats 4000000
namespace Rh
open PySem L2 PyProof.Rows
def RowsAt (H : Hp) (ps : List Addr) (rs : List (Str × List Str)) : Prop := ps.length = rs.length ∧ ∀ (i : Nat) (p : Addr) (r : Str × List Str), ps[i]? = some p → rs[i]? = some r → ∃ q, H p = some (.tup [.str r.1, .ref q]) ∧ H q = some (.tup (r.2.map V.str))
def spRows : Sp := fun vs H Q _ => ∃ (d : Addr) (mo : Nat) (n s t : Int), vs = [.ref d, .int mo] ∧ H d = some (.dK (src n s t)) ∧ 0 < mo ∧ mo ≤ 14 ∧
  ∀ (l : Addr) (ps : List Addr) (rs : List (Str × List Str)) (n' t' : Int) (H' : Hp), H l = none → H' l = some (.lst (ps.map V.ref)) → RowsAt H' ps rs → GoodRows rs → 0 < rs.length → rs.length ≤ mo → H' d = some (.dK (src n' s t')) → Fr H d H' → Q (.ref l) H'
structure KitG (mg : Str → Option Value) : Prop where
  srt : mg "sorted" = none
  lst : mg "list" = none
  rev : mg "reversed" = none
  set : mg "set" = none
  tup : mg "tuple" = none
theorem RowsAt.mono {H H' : Hp} {ps : List Addr} {rs : List (Str × List Str)} (h : RowsAt H ps rs) (s : Same H H') : RowsAt H' ps rs := ⟨h.1, fun i p r e1 e2 => let ⟨q, a, b⟩ := h.2 i p r e1 e2; ⟨q, s _ _ a, s _ _ b⟩⟩
theorem PairsAt.mono {H H' : Hp} {ps : List Addr} {ks : List (Nat × Nat)} (h : PairsAt H ps ks) (s : Same H H') : PairsAt H' ps ks := ⟨h.1, fun i p k e1 e2 => s _ _ (h.2 i p k e1 e2)⟩
theorem Fr.same {H H' H'' : Hp} {d : Addr} (h : Fr H d H') (s : Same H' H'') : Fr H d H'' := fun b u hb hn => s _ _ (h b u hb hn)
theorem RowsAt.snoc {H : Hp} {ps : List Addr} {rs : List (Str × List Str)} (h : RowsAt H ps rs) {p q : Addr} {r : Str × List Str} (hp : H p = some (.tup [.str r.1, .ref q])) (hq : H q = some (.tup (r.2.map V.str))) : RowsAt H (ps ++ [p]) (rs ++ [r]) := by
  refine ⟨by rw [List.length_append, List.length_append, h.1]; rfl, fun i p' r' e1 e2 => ?_⟩
  by_cases hi : i < ps.length
  · rw [List.getElem?_append_left hi] at e1
    rw [List.getElem?_append_left (by rw [← h.1]; exact hi)] at e2
    exact h.2 i p' r' e1 e2
  · have hi' : i = ps.length := by
      have := (List.getElem?_eq_some_iff.mp e1).1
      rw [List.length_append, List.length_singleton] at this
      omega
    subst hi'
    rw [List.getElem?_append_right (Nat.le_refl _), Nat.sub_self] at e1
    rw [h.1, List.getElem?_append_right (Nat.le_refl _), Nat.sub_self] at e2
    obtain rfl := (Option.some.inj e1).symm
    obtain rfl := (Option.some.inj e2).symm
    exact ⟨q, hp, hq⟩
theorem RowsAt.upd_lst {H : Hp} {ps : List Addr} {rs : List (Str × List Str)} {l : Addr} {xs : List V} {o : HO} (h : RowsAt H ps rs) (hl : H l = some (.lst xs)) : RowsAt (upd H l o) ps rs := by
  refine ⟨h.1, fun i p r e1 e2 => ?_⟩
  obtain ⟨q, a, b⟩ := h.2 i p r e1 e2
  refine ⟨q, ?_, ?_⟩
  · rw [upd_ne (fun e => by rw [e, hl] at a; cases a)]
    exact a
  · rw [upd_ne (fun e => by rw [e, hl] at b; cases b)]
    exact b
theorem if_any {tc : TT} {tp u : TS} {D : Ends} {σ : L2.St} {H0 : Hp} (R : Bool → Hp → Prop) (G : L2.St → Hp → Prop) (ht : ∀ Q : Bool → Hp → Prop, (∀ b H1, R b H1 → Q b H1) → tc σ H0 Q)
    (hT : ∀ H1, R true H1 → ∀ D' : Ends, (∀ σ' H', G σ' H' → D'.nx σ' H') → tp D' σ H1) (hF : ∀ H1, R false H1 → G σ H1) (k : ∀ σ' H', G σ' H' → u D σ' H') : tSeq (tIfS tc tp tNext) u D σ H0 :=
  ht _ fun b H1 r => by
    cases b
    · exact iteF (k _ _ (hF _ r))
    · exact iteT (hT _ r _ k)
theorem zs_at {zs : List Str} {j : Nat} (h : j < zs.length) : atI (zs.map V.str) ((j : Nat) : Int) = some (V.str (zAt zs j)) := atI_nat (by rw [List.getElem?_map, zAt_get h]; rfl)
theorem toN_step {ks : List (Nat × Nat)} {j : Nat} {x : Nat × Nat} (k : Nat) (h : ks[j]? = some x) : toN (ks.take (j + 1)) k = toN (ks.take j) k ++ if x.1 = k then [x.2] else [] := by
  unfold toN
  rw [List.take_add_one, h, List.filter_append, List.map_append]
  congr 1
  by_cases e : x.1 = k
  · rw [if_pos e]
    simp [e]
  · rw [if_neg e]
    simp [e]
abbrev oL (os : List Nat) : List V := os.map fun k => V.int ((k : Nat) : Int)
theorem oL_ints (os : List Nat) : oL os = (os.map fun k => ((k : Nat) : Int)).map V.int := by rw [List.map_map]; rfl
section
variable {P : Program} {w : World} {K : PySem.W.Frag} {mg : Str → Option Value} {base : Heap}
abbrev nRows : List Str := ["_law_source_here", "_law_most", "_law_many", "_law_names_here", "_law_shape", "_law_pairs", "_law_about", "_law_order", "_law_rows_here", "_law_k", "_law_leads_here"]
theorem scRows : FnScope nRows ["_law_source_here", "_law_most"] (defScope sRows) := ⟨rfl, rfl, rfl, by decide +kernel, rfl, by decide +kernel, by decide +kernel⟩
abbrev cRow : List Str := ["_law_one", "_law_j", "_law_k", "_law_names_here"]
theorem cRow_nd : cRow.Nodup := by decide +kernel
theorem ok_rows {f fT fN fL : Addr} {fd fdT fdN fdL : FuncData} (F : Fun K "_law_rows" "_law_rows" sRows f fd) (B : Blt mg) (G : KitG mg) (hT : Has K mg "_law_take" sTake ["_law_source_here", "_law_many"] fT fdT)
    (hN : Has K mg "_law_names" sNames ["_law_source_here", "_law_many"] fN fdN) (hL : Has K mg "_law_leads" sLeads pLeads fL fdL) : FnOk P w K mg base CX0 3 f fd ["_law_source_here", "_law_most"] spRows := by
  have GT : FnOk P w K mg base CX0 1 fT fdT ["_law_source_here", "_law_many"] spTake := ok_take hT.fn
  have GN : FnOk P w K mg base CX0 2 fN fdN ["_law_source_here", "_law_many"] spNames := ok_names hN.fn B hT
  have GL : FnOk P w K mg base CX0 2 fL fdL pLeads spLeads := ok_leads hL.fn B G.srt hT
  refine F.okJ scRows (fun vs H Q E h => ?_) (fun cdv A outer s H vs Q E hr h => ?_)
  · obtain ⟨d, m, n, sd, t, rfl, _⟩ := h
    rfl
  · obtain ⟨d, mo, n, sd, t, rfl, hd, hmo, hm14, q⟩ := h
    have r1 : Room 1 _ := hr.mono (by decide)
    refine ⟨_, jss_cons (js_set (i := 2) scRows.nd rfl (Or.inr rfl) (je_op op_add je_int (je_f hT GT r1 (by rfl) (ja_cons (jv 0) (ja_cons (jv 1) ja_nil)))))
      (jss_cons (js_set (i := 3) scRows.nd rfl (Or.inr rfl) (je_f hN GN hr (by rfl) (ja_cons (jv 0) (ja_cons (jv 2) ja_nil))))
      (jss_cons (js_set (i := 4) scRows.nd rfl (Or.inl rfl) (je_f hT GT r1 (by rfl) (ja_cons (jv 0) (ja_cons je_int ja_nil))))
      (jss_cons (js_set (i := 5) scRows.nd rfl (Or.inl rfl) (je_f hL GL hr (by rfl) (ja_cons (jv 0) (ja_cons (jv 2) (ja_cons (jv 4) (ja_cons (je_op op_add je_int (je_f hT GT r1 (by rfl) (ja_cons (jv 0) (ja_cons je_int ja_nil)))) ja_nil))))))
      (jss_cons (js_set (i := 6) scRows.nd rfl (Or.inl rfl) (je_cmpR op_eq (je_f hT GT r1 (by rfl) (ja_cons (jv 0) (ja_cons je_int ja_nil))) je_int (nomark _)))
      (jss_cons (js_set (i := 7) scRows.nd rfl (Or.inl rfl) (je_lr rfl (by rfl) G.lst (by rfl) B.rng (jv 2)))
      (jss_cons (js_if (jt_val (jv 6)) (jss_one (js_setLC (i := 7) (N' := ["_law_k", "_law_many"]) (ix := [none, some 2]) scRows.nd rfl (Or.inl rfl) rfl ⟨rfl, rfl, rfl, rfl, rfl⟩ (ji_range1 (by rfl) B.rng (ja_cons (jv 2) ja_nil))
          (fun C s2 H2 fp pins => ⟨jg_name (i := 0) (show (["_law_k", "_law_many"] : List Str).Nodup by decide +kernel) rfl (Or.inl rfl), jts_nil, je_op op_mod (je_op op_mul (jv 0) je_int) (jv 1)⟩))) jss_nil)
      (jss_cons (js_if (jt_cmpR op_lt (je_callB call_lenSet (by rfl) B.len boot_len (ja_cons (je_callTy (call_setL rfl) (by rfl) G.set boot_set (ja_cons (jv 7) ja_nil)) ja_nil)) (jv 2) (nomark _))
          (jss_one (js_set (i := 7) scRows.nd rfl (Or.inl rfl) (je_lrr rfl (by rfl) G.lst (by rfl) G.rev (by rfl) B.rng (jv 2)))) jss_nil)
      (jss_cons (js_set (i := 8) scRows.nd rfl (Or.inl rfl) (je_lst ja_nil))
      (jss_cons (js_for PassesOwn.never rfl (ji_list (jv 7)) (jg_name (i := 9) scRows.nd rfl (Or.inr rfl))
        (jss_cons (js_setLC (i := 10) (N' := cRow) (ix := [none, none, some 9, some 3]) (g := gTup K 2 (gCons (gName 0) (gCons (gName 1) gNil))) (te := tOp (rIxL K) (tVar 3) (tVar 1)) scRows.nd rfl (Or.inl rfl) rfl ⟨rfl, rfl, rfl, rfl, rfl⟩ (ji_list (jv 5))
            (fun C s2 H2 fp pins => ⟨jg_tup rfl (jgs_cons (jg_name (i := 0) cRow_nd rfl (Or.inl rfl)) (jgs_cons (jg_name (i := 1) cRow_nd rfl (Or.inl rfl)) jgs_nil)),
              jts_one (jt_cmpR op_eq (jv 0) (jv 2) (nomark _)), je_ix ix_list (jv 3) (jv 1) (fun _ _ => rfl)⟩))
        (jss_cons (js_if (jt_val (jv 6)) (jss_one (js_expr (je_bm0 PySem.F.plainAttrs_list PySem.F.slot_list_reverse PySem.F.type_list_reverse mt_reverse (jv 10)))) jss_nil)
        (jss_one (js_expr (je_bm PySem.F.plainAttrs_list PySem.F.slot_list_append PySem.F.type_list_append mt_append (jv 8) (ja_cons
          (je_tup (ja_cons (je_ix ix_list (jv 3) (jv 9) (fun _ _ => rfl)) (ja_cons (je_callTy call_tuple_of (by rfl) G.tup boot_tuple (ja_cons (jv 10) ja_nil)) ja_nil))) ja_nil)))))))
      (jss_one (js_ret (jv 8)))))))))))), ?_⟩
    refine ⟨_, rfl, _, rfl, d, mo, n, sd, t, rfl, hd, by omega, by omega, fun r n1 t1 r0 r1 => ⟨_, _, rfl, rfl, ?_⟩⟩
    obtain ⟨m, em, m0, m1⟩ : ∃ m : Nat, 1 + r = (m : Int) ∧ 0 < m ∧ m ≤ mo := ⟨(1 + r).toNat, by omega, by omega, by omega⟩
    have em' : (fun i j : Int => V.int (i + j)) 1 r = V.int (m : Int) := congrArg V.int em
    rw [em']
    refine ⟨_, rfl, _, rfl, d, m, n1, sd, t1, rfl, upd_same, by omega, fun lz zs n2 t2 H2 hlz hlz' zl zn znd hd2 fr2 => ?_⟩
    have fr2 : Fr H d H2 := Fr.refl.at_d.trans fr2
    refine ⟨_, rfl, d, 5, n2, sd, t2, rfl, hd2, by decide, by decide, fun sh n3 t3 _ _ => ?_⟩
    refine ⟨_, rfl, _, rfl, _, rfl, _, rfl, d, 5, n3, sd, t3, rfl, upd_same, by decide, by decide, fun lw n4 t4 _ _ => ⟨_, _, rfl, rfl, d, m, n4, sd, t4, sh, 1 + lw, rfl, upd_same, by omega, fun lp ps ks n5 t5 H5 hlp hlp' pat kord klt k40 hd5 fr5 => ?_⟩⟩
    have nzd : lz ≠ d := fun e => by rw [e, upd_same] at hlz; cases hlz
    have hz5 : H5 lz = some (.lst (zs.map V.str)) := fr5 _ _ (by rw [upd_ne nzd, upd_ne nzd]; exact hlz') nzd
    have fr5 : Fr H d H5 := fr2.at_d.at_d.trans fr5
    refine ⟨_, rfl, d, 2, n5, sd, t5, rfl, hd5, by decide, by decide, fun ab n6 t6 _ _ => ⟨rfl, ?_⟩⟩
    generalize decide (V.int ab = V.int 1) = b
    have npd : lp ≠ d := fun e => by rw [e, upd_same] at hlp; cases hlp
    have fr6 : Fr H d (upd H5 d (.dK (src n6 sd t6))) := fr5.at_d
    have hd6 : upd H5 d (.dK (src n6 sd t6)) d = some (.dK (src n6 sd t6)) := upd_same
    have hz6 : upd H5 d (.dK (src n6 sd t6)) lz = some (.lst (zs.map V.str)) := by rw [upd_ne nzd]; exact hz5
    have hp6 : upd H5 d (.dK (src n6 sd t6)) lp = some (.lst (ps.map V.ref)) := by rw [upd_ne npd]; exact hlp'
    have pat6 : PairsAt (upd H5 d (.dK (src n6 sd t6))) ps ks := ⟨pat.1, fun i p k e1 e2 => by
      have h1 := pat.2 i p k e1 e2
      have : p ≠ d := fun e => by rw [e, hd5] at h1; cases h1
      rw [upd_ne this]
      exact h1⟩
    generalize upd H5 d (.dK (src n6 sd t6)) = H6 at fr6 hd6 hz6 hp6 pat6
    refine ⟨_, rfl, m, rfl, by omega, fun lo hlo => ?_⟩
    refine gName_is ?_
    dsimp only [List.set]
    refine if_any (fun c H' => c = b ∧ H' = upd H6 lo (.lst (upN m))) (fun σ' H' => ∃ lo os, σ' = [some (.ref d), some (.int mo), some (.int m), some (.ref lz), some (.int sh), some (.ref lp), some (.bl b), some (.ref lo), none, none, none] ∧ Same H6 H' ∧ H6 lo = none ∧ H' lo = some (.lst (oL os)) ∧ (os = List.range m ∨ os = fives m))
      (fun Q k => ⟨_, rfl, b, rfl, k _ _ ⟨rfl, rfl⟩⟩) ?_ ?_ ?_
    · rintro H1 ⟨rfl, rfl⟩ D' k
      refine ⟨_, rfl, m, rfl, by omega, by omega, fun D hD => ?_⟩
      refine blk_range (fun i σ' H' => ∃ v : Option V, σ' = [v, some (.int m)] ∧ H' = upd (upd H6 lo (.lst (upN m))) D (.lst (oL ((List.range i).map fun k => k * 5 % m)))) ⟨none, rfl, rfl⟩ ?_ ?_
      · rintro i σ' H' hi ⟨v, rfl, rfl⟩
        rw [Int.zero_add]
        have hi : i < m := by simpa using hi
        refine ⟨_, rfl, _, _, rfl, rfl, .inl ⟨by omega, by omega⟩, _, rfl, _, _, rfl, rfl, (by show (0 : Int) < m; omega), _, upd_same, ?_, _, rfl, ?_⟩
        · rw [List.length_map, List.length_map, List.length_range]
          exact small1000 (by omega)
        · rw [upd_upd, List.range_succ, List.map_append, oL, oL, List.map_append]
          rfl
      · rintro σ' H' ⟨v, rfl, rfl⟩
        have hD6 : H6 D = none := by
          by_cases e : D = lo
          · rw [e]; exact hlo
          · rw [upd_ne e] at hD; exact hD
        exact k _ _ ⟨D, fives m, rfl, fun a u h => upd_keep (upd_keep h hlo) hD, hD6, upd_same, .inr rfl⟩
    · rintro H1 ⟨rfl, rfl⟩
      exact ⟨lo, List.range m, rfl, same_upd hlo, hlo, upd_same, .inl rfl⟩
    rintro σ' H7 ⟨lo, os, rfl, s7, hlo6, hlo7, hos⟩
    have los : os.length = m := by
      rcases hos with rfl | rfl
      · exact List.length_range
      · rw [fives, List.length_map, List.length_range]
    refine if_any (fun c H' => Same H7 H' ∧ (c = true ∨ os.Nodup)) (fun σ' H' => ∃ lo os, σ' = [some (.ref d), some (.int mo), some (.int m), some (.ref lz), some (.int sh), some (.ref lp), some (.bl b), some (.ref lo), none, none, none] ∧ Same H6 H' ∧ H' lo = some (.lst (oL os)) ∧ Order m os)
      ?_ ?_ ?_ ?_
    · intro Q k
      refine ⟨_, rfl, lo, os.map (fun k => ((k : Nat) : Int)), rfl, .of (by rw [← oL_ints]; exact hlo7), by rw [List.length_map, los]; omega, fun l S hl => ?_⟩
      refine ⟨l, S, _, rfl, upd_same, _, rfl, _, _, rfl, rfl, _, rfl, k _ _ ⟨same_upd hl, ?_⟩⟩
      by_cases h : (((firstMet (fun i => (os.map fun k => ((k : Nat) : Int)).getD i 0) (os.map fun k => ((k : Nat) : Int)).length).length : Nat) : Int) < (m : Int)
      · exact .inl (decide_eq_true h)
      · exact .inr (met_of (by rw [los]; omega))
    · rintro H1 ⟨s1, _⟩ D' k
      refine ⟨_, rfl, m, rfl, by omega, fun l hl => ?_⟩
      exact k _ _ ⟨l, downN m, rfl, fun a u h => upd_keep (s1 _ _ (s7 _ _ h)) hl, upd_same, order_down m⟩
    · rintro H1 ⟨s1, h⟩
      have h : os.Nodup := h.resolve_left (by decide)
      refine ⟨lo, os, rfl, fun a u h => s1 _ _ (s7 _ _ h), s1 _ _ hlo7, ?_⟩
      rcases hos with rfl | rfl
      · exact order_up m
      · exact order_fives (by omega) m0 h
    rintro σ' H8 ⟨lo, os, rfl, s8, hlo8, ho⟩
    refine ⟨by show 0 ≤ sizeLine; decide, fun lr hlr => ⟨_, rfl, lo, rfl, ⟨_, .of (upd_keep hlo8 hlr)⟩, ?_⟩⟩
    refine for_list (K := K) (a := lo) (xs := oL os) (fun i σ' H' => ∃ (v9 v10 : Option V) (qs : List Addr), σ' = [some (.ref d), some (.int mo), some (.int m), some (.ref lz), some (.int sh), some (.ref lp), some (.bl b), some (.ref lo), some (.ref lr), v9, v10] ∧
      Same H8 H' ∧ H' lr = some (.lst (qs.map V.ref)) ∧ RowsAt H' qs ((os.take i).map (rowOf zs ks b)))
      ⟨none, none, [], rfl, same_upd hlr, upd_same, rfl, fun i p r e => (nomatch e)⟩ (fun i σ' H' _ ⟨_, _, _, _, s, _⟩ => .of (s _ _ hlo8)) ?_ ?_
    · rintro i x σ' H' hx ⟨v9, v10, qs, rfl, s9, hlr9, rat⟩
      have hix : i < os.length := by
        have := (List.getElem?_eq_some_iff.mp hx).1
        rwa [List.length_map] at this
      obtain ⟨k, hk⟩ : ∃ k, os[i]? = some k := ⟨_, List.getElem?_eq_getElem hix⟩
      have ex : x = V.int ((k : Nat) : Int) := by
        rw [List.getElem?_map, hk] at hx
        exact (Option.some.inj hx).symm
      subst ex
      have hkm : k < m := ho.lt k (List.mem_of_getElem? hk)
      refine ⟨_, rfl, lp, rfl, ⟨_, .of (s9 _ _ (s8 _ _ hp6))⟩, fun D hD => ?_⟩
      have nDr : D ≠ lr := fun e => by rw [e, hlr9] at hD; cases hD
      have hz9 : H' lz = some (.lst (zs.map V.str)) := s9 _ _ (s8 _ _ hz6)
      have pat9 : PairsAt H' ps ks := pat6.mono fun a u h => s9 _ _ (s8 _ _ h)
      refine blk_list (K := K) (a := lp) (xs := ps.map V.ref) (fun j σ'' H'' => ∃ v0 v1 : Option V, σ'' = [v0, v1, some (.int k), some (.ref lz)] ∧ H'' = upd H' D (.lst (((toN (ks.take j) k).map (zAt zs)).map V.str))) ⟨none, none, rfl, rfl⟩
        (fun j σ'' G _ ⟨_, _, _, e⟩ => e ▸ .of (upd_keep (s9 _ _ (s8 _ _ hp6)) hD)) ?_ ?_
      · rintro j y σ'' G hy ⟨v0, v1, rfl, rfl⟩
        have hj : j < ps.length := by
          have := (List.getElem?_eq_some_iff.mp hy).1
          rwa [List.length_map] at this
        obtain ⟨p, hp⟩ : ∃ p, ps[j]? = some p := ⟨_, List.getElem?_eq_getElem hj⟩
        obtain ⟨kk, hkk⟩ : ∃ p, ks[j]? = some p := ⟨_, List.getElem?_eq_getElem (by rw [← pat9.1]; exact hj)⟩
        have ey : y = V.ref p := by
          rw [List.getElem?_map, hp] at hy
          exact (Option.some.inj hy).symm
        subst ey
        have hpt := pat9.2 j p kk hp hkk
        have hk2 : kk.2 < zs.length := by rw [zl]; exact (klt kk (List.mem_of_getElem? hkk)).2
        refine ⟨p, _, rfl, .of (upd_keep hpt hD), rfl, _, _, rfl, _, _, rfl, rfl, _, rfl, _, rfl, rfl, _, rfl, ?_⟩
        rw [toN_step k hkk]
        by_cases e : kk.1 = k
        · have e1 : decide (V.int ((kk.1 : Nat) : Int) = V.int ((k : Nat) : Int)) = true := decide_eq_true (by rw [e])
          rw [e1, if_pos e]
          refine iteT ⟨_, rfl, _, rfl, lz, _, _, _, rfl, rfl, .of (upd_keep hz9 hD), zs_at hk2, _, upd_same, ?_, _, _, rfl, ?_⟩
          · rw [List.length_map, List.length_map]
            refine small1000 ?_
            have h1 : (toN (ks.take j) k).length ≤ (ks.take j).length := by
              unfold toN
              rw [List.length_map]
              exact List.length_filter_le _ _
            rw [List.length_take] at h1
            omega
          · rw [upd_upd, List.map_append, List.map_append]
            rfl
        · have e1 : decide (V.int ((kk.1 : Nat) : Int) = V.int ((k : Nat) : Int)) = false := decide_eq_false (by
            intro z
            have := V.int.inj z
            omega)
          rw [e1, if_neg e, List.append_nil]
          exact iteF ⟨_, _, rfl, rfl⟩
      · rintro σ'' G ⟨v0, v1, rfl, rfl⟩
        rw [List.length_map, pat9.1, List.take_of_length_le (Nat.le_refl _)]
        refine gName_is ?_
        dsimp only [List.set]
        refine if_any (fun c G => c = b ∧ G = upd H' D (.lst (((toN ks k).map (zAt zs)).map V.str)))
          (fun σ' G => σ' = [some (.ref d), some (.int mo), some (.int m), some (.ref lz), some (.int sh), some (.ref lp), some (.bl b), some (.ref lo), some (.ref lr), some (.int k), some (.ref D)] ∧ G = upd H' D (.lst ((rowOf zs ks b k).2.map V.str)))
          (fun Q k => ⟨_, rfl, b, rfl, k _ _ ⟨rfl, rfl⟩⟩) ?_ ?_ ?_
        · rintro H1 ⟨rfl, rfl⟩ D' kk
          refine ⟨_, rfl, .inl ⟨rfl, _, .of upd_same⟩, D, _, rfl, rfl, upd_same, ?_⟩
          refine kk _ _ ⟨rfl, ?_⟩
          rw [upd_upd, rowOf, if_pos rfl, List.map_reverse]
        · rintro H1 ⟨rfl, rfl⟩
          exact ⟨rfl, rfl⟩
        rintro σ' G ⟨rfl, rfl⟩
        have hlrG : upd H' D (.lst ((rowOf zs ks b k).2.map V.str)) lr = some (.lst (qs.map V.ref)) := by rw [upd_ne (Ne.symm nDr)]; exact hlr9
        have sG : Same H' (upd H' D (.lst ((rowOf zs ks b k).2.map V.str))) := same_upd hD
        refine ⟨_, rfl, .inl ⟨rfl, _, .of hlrG⟩, _, rfl, _, rfl, lz, _, _, _, rfl, rfl, .of (sG _ _ hz9), zs_at (by rw [zl]; exact hkm), _, rfl, D, _, rfl, .inl ⟨.of upd_same, fun lq hq => ⟨by show 2 ≤ sizeLine; decide, fun lt hlt => ?_⟩⟩⟩
        have hqlr := upd_keep (o' := HO.tup ((rowOf zs ks b k).2.map V.str)) hlrG hq
        have htlr := upd_keep (o' := HO.tup [V.str (zAt zs k), V.ref lq]) hqlr hlt
        refine ⟨lr, _, _, rfl, rfl, htlr, ?_, _, _, qs ++ [lt], rfl, ?_, ?_, ?_⟩
        · rw [List.length_map, rat.1, List.length_map, List.length_take]
          refine small1000 ?_
          have := ho.len
          omega
        · exact Same.upd (fun a u h => upd_keep (upd_keep (sG _ _ (s9 _ _ h)) hq) hlt) hlr
        · rw [List.map_append]
          exact upd_same
        · have e : os.take (i + 1) = os.take i ++ [k] := by rw [List.take_add_one, hk]; rfl
          rw [e, List.map_append]
          refine RowsAt.upd_lst ?_ htlr
          exact RowsAt.snoc (q := lq) (rat.mono fun a u h => upd_keep (upd_keep (sG _ _ h) hq) hlt) upd_same (upd_keep upd_same hlt)
    · rintro σ' H' ⟨v9, v10, qs, rfl, s9, hlr9, rat⟩
      have e : (oL os).length = os.length := List.length_map ..
      rw [e, List.take_of_length_le (Nat.le_refl _)] at rat
      have h8 : H6 lr = none := by
        cases z : H6 lr with
        | none => rfl
        | some u => rw [s8 _ _ z] at hlr; cases hlr
      refine ⟨_, rfl, q lr qs _ n6 t6 H' (fr6.fresh hd6 h8) hlr9 rat (good_rows b zl zn znd kord klt k40 ho) ?_ ?_ (s9 _ _ (s8 _ _ hd6)) (fr6.same fun a u h => s9 _ _ (s8 _ _ h))⟩
      · rw [List.length_map, ho.len]; exact m0
      · rw [List.length_map, ho.len]; exact m1
end
end Rh
set_option Elab.async false
set_option linter.all false
set_option maxRecDepth 100000
set_option maxHeartbeats 4000000
namespace Rh
open PySem L2 PyProof.Rows
abbrev sTupN : Stmt := top 18
abbrev sIsRow : Stmt := top 19
abbrev sForm : Stmt := top 20
abbrev sOwn : Stmt := top 21
abbrev sEnds : Stmt := top 22
abbrev sFew : Stmt := top 23
abbrev sNeed : Stmt := top 24
theorem nd1 (x : Str) : [x].Nodup := by simp
structure KitP (K : PySem.W.Frag) (mg : Str → Option Value) : Prop where
  isi : mg "isinstance" = none
  str : mg "str" = none
  all : mg "all" = none
  enu : mg "enumerate" = none
  sum : mg "sum" = none
  lets : ∃ t, mg "LETTERS" = some (.str abc t)
  lgst : ∃ t, mg "LONGEST_NAME" = some (.int 8 t)
  mp : ∃ t, mg "MOST_PLACES" = some (.int 14 t)
  mr : ∃ t, mg "MOST_ROADS" = some (.int 40 t)
  kss : PySem.W.kitOne K (.type "str") (.type "str") = some true
  ktt : PySem.W.kitOne K (.type "tuple") (.type "tuple") = some true
  kll : PySem.W.kitOne K (.type "list") (.type "list") = some true
theorem in_abc (c : Nat) : (!(Builtin.Str.occurrences abc ⟨#[c]⟩ 0 abc.length 1).isEmpty) = letter c := by
  rw [StrLaws.found_one, abc_up]
  unfold letter
  rw [Bool.eq_iff_iff]
  simp only [decide_eq_true_eq, Bool.and_eq_true, List.mem_map, List.mem_range]
  constructor
  · rintro ⟨k, hk, rfl⟩
    omega
  · intro h
    exact ⟨c - 97, by omega, by omega⟩
theorem all_snoc (f : Nat → Bool) (l : List Nat) (i c : Nat) (h : l[i]? = some c) : (l.take i).map f ++ [f c] = (l.take (i + 1)).map f := by
  rw [List.take_add_one, h]
  simp
def spNm : Sp := fun vs H Q _ => ∃ z, vs = [.str z] ∧ isName z = true ∧ ∀ H', Same H H' → Q (.bl true) H'
def spTN : Sp := fun vs H Q _ => ∃ (q : Addr) (zs : List Str), vs = [.ref q] ∧ H q = some (.tup (zs.map V.str)) ∧ (∀ z ∈ zs, isName z = true) ∧ zs.length ≤ 1000 ∧ ∀ H', Same H H' → Q (.bl true) H'
def spRow : Sp := fun vs H Q _ => ∃ (p q : Addr) (r : Str × List Str), vs = [.ref p] ∧ H p = some (.tup [.str r.1, .ref q]) ∧ H q = some (.tup (r.2.map V.str)) ∧ isName r.1 = true ∧ (∀ z ∈ r.2, isName z = true) ∧ r.2.length ≤ 1000 ∧ ∀ H', Same H H' → Q (.bl true) H'
structure GoodAt (H : Hp) (l : Addr) (ps : List Addr) (rs : List (Str × List Str)) : Prop where
  at_ : H l = some (.lst (ps.map V.ref))
  rows : RowsAt H ps rs
  good : GoodRows rs
  pos : 0 < rs.length
  le : rs.length ≤ 14
theorem GoodAt.mono {H H' : Hp} {l : Addr} {ps : List Addr} {rs : List (Str × List Str)} (h : GoodAt H l ps rs) (s : Same H H') : GoodAt H' l ps rs := ⟨s _ _ h.at_, h.rows.mono s, h.good, h.pos, h.le⟩
theorem GoodRows.names {rs : List (Str × List Str)} (h : GoodRows rs) : ∀ r ∈ rs, ∀ z ∈ r.2, isName z = true := fun r hr z hz => by
  obtain ⟨r', hr', rfl⟩ := List.mem_map.mp (h.to r hr z hz)
  exact h.nm r' hr'
theorem GoodRows.len {rs : List (Str × List Str)} (h : GoodRows rs) : ∀ r ∈ rs, r.2.length ≤ 40 := fun r hr => by
  refine Nat.le_trans ?_ h.few
  have : ∀ (rs : List (Str × List Str)), r ∈ rs → r.2.length ≤ (rs.map fun r => r.2.length).sum := by
    intro rs
    induction rs with
    | nil => intro h; cases h
    | cons a rs ih =>
      intro h
      rw [List.map_cons, List.sum_cons]
      rcases List.mem_cons.mp h with rfl | h
      · omega
      · have := ih h
        omega
  exact this rs hr
theorem RowsAt.item {H : Hp} {ps : List Addr} {rs : List (Str × List Str)} (h : RowsAt H ps rs) {i : Nat} {x : V} (hx : (ps.map V.ref)[i]? = some x) : ∃ p q r, x = .ref p ∧ rs[i]? = some r ∧ r ∈ rs ∧ H p = some (.tup [.str r.1, .ref q]) ∧ H q = some (.tup (r.2.map V.str)) := by
  rw [List.getElem?_map] at hx
  cases e : ps[i]? with
  | none => rw [e] at hx; cases hx
  | some p =>
    rw [e] at hx
    have hi : i < rs.length := by
      have := (List.getElem?_eq_some_iff.mp e).1
      rw [h.1] at this
      exact this
    obtain ⟨q, a, b⟩ := h.2 i p _ e (List.getElem?_eq_getElem hi)
    exact ⟨p, q, _, (Option.some.inj hx).symm, List.getElem?_eq_getElem hi, List.getElem_mem hi, a, b⟩
def spGood : Sp := fun vs H Q _ => ∃ (l : Addr) (ps : List Addr) (rs : List (Str × List Str)), vs = [.ref l] ∧ GoodAt H l ps rs ∧ ∀ H', Same H H' → Q .non H'
def spOwn : Sp := fun vs H Q _ => ∃ (l : Addr) (zs : List Str), vs = [.ref l] ∧ H l = some (.lst (zs.map V.str)) ∧ zs.Nodup ∧ zs.length ≤ 1000 ∧ ∀ H', Same H H' → Q .non H'
def spEnds : Sp := fun vs H Q _ => ∃ (q l : Addr) (es zs : List Str), vs = [.ref q, .ref l] ∧ H q = some (.tup (es.map V.str)) ∧ H l = some (.lst (zs.map V.str)) ∧ es.Nodup ∧ (∀ z ∈ es, z ∈ zs) ∧ es.length ≤ 900 ∧ ∀ H', Same H H' → Q .non H'
theorem valV_out {kvs : List (Key × V)} {k : Key} (h : ¬ k ∈ kvs.map (·.1)) : valV kvs k = none := by
  cases e : valV kvs k with
  | none => rfl
  | some v => exact absurd (valV_in e) h
theorem flat_strs (zs : List Str) : (zs.map V.str).all flatV = true := by
  rw [List.all_map, List.all_eq_true]
  intro z _
  rfl
theorem inV_str {z : Str} {zs : List Str} (h : z ∈ zs) : inV (.str z) (zs.map V.str) = true := by
  unfold inV
  rw [List.any_eq_true]
  exact ⟨.str z, List.mem_map.mpr ⟨z, h, rfl⟩, by show (z == z) = true; simp⟩
section
variable {P : Program} {w : World} {K : PySem.W.Frag} {mg : Str → Option Value} {base : Heap}
theorem scName : FnScope ["thing"] ["thing"] (defScope sName) := ⟨rfl, rfl, rfl, by decide +kernel, rfl, by decide +kernel, by decide +kernel⟩
theorem ok_name {f : Addr} {fd : FuncData} (F : Fun K "is_name" "is_name" sName f fd) (B : Blt mg) (T : KitP K mg) : FnOk P w K mg base CX0 1 f fd ["thing"] spNm := by
  refine F.okJ scName (fun vs H Q E h => ?_) (fun cdv A outer s H vs Q E hr h => ?_)
  · obtain ⟨x, rfl, _⟩ := h
    rfl
  · obtain ⟨z, rfl, hz, q⟩ := h
    obtain ⟨tl, hlets⟩ := T.lets
    obtain ⟨tg, hlg⟩ := T.lgst
    refine ⟨_, jss_cons (js_if (jt_not (jt_val (je_callB call_isinst (by rfl) T.isi boot_isinstance (ja_cons (jv 0) (ja_cons (je_bltn (v := .ty "str") (by rfl) T.str boot_str rfl) ja_nil))))) (jss_one (js_ret je_bl)) jss_nil)
      (jss_cons (js_if (jw_or (jt_cmpR op_lt (je_callB call_len_str (by rfl) B.len boot_len (ja_cons (jv 0) ja_nil)) je_int (nomark _))
          (jw_or1 (jt_cmpR op_gt (je_callB call_len_str (by rfl) B.len boot_len (ja_cons (jv 0) ja_nil)) (je_glob (v := .int 8) (by rfl) hlg ⟨_, rfl⟩) (nomark _)))).pt (jss_one (js_ret je_bl)) jss_nil)
      (jss_one (js_ret (je_callB (call_allB rfl) (by rfl) T.all boot_all (ja_cons (je_lc (N' := ["sign"]) (ix := [none]) rfl ⟨rfl, rfl, rfl, rfl, rfl⟩ (ji_str (jv 0)) (fun C s2 H2 fp pins =>
        ⟨jg_name (i := 0) (nd1 _) rfl (Or.inl rfl), jts_nil, je_cmpR op_in_str (jv 0) (je_glob (v := .str abc) (by rfl) hlets ⟨_, rfl⟩) (by with_unfolding_all rfl)⟩)) ja_nil))))), ?_⟩
    have hn := hz
    unfold isName at hn
    simp only [Bool.and_eq_true, decide_eq_true_eq] at hn
    obtain ⟨⟨n1, n8⟩, na⟩ := hn
    have hz' : z.length ≤ sizeLine := Nat.le_of_lt (small1000 (by omega))
    refine ⟨_, rfl, _, _, _, _, rfl, rfl, .str z, T.kss, _, rfl, iteF ?_⟩
    refine ⟨_, rfl, z, rfl, hz', _, _, rfl, rfl, _, rfl, ?_⟩
    refine ite2 (fun h => ?_) (fun h => ?_)
    · exact absurd (of_decide_eq_true h) (by omega)
    · refine ⟨_, rfl, z, rfl, hz', _, _, rfl, rfl, _, rfl, ?_⟩
      refine ite2 (fun h2 => ?_) (fun h2 => ?_)
      · exact absurd (of_decide_eq_true h2) (by show ¬ (8 : Int) < (z.length : Int); omega)
      · refine ⟨_, rfl, z, rfl, fun D hD => ?_⟩
        refine blk_str (fun i σ' H' => ∃ v, σ' = [v] ∧ H' = upd H D (.lst (((z.cps.toList.take i).map letter).map V.bl))) ⟨none, rfl, rfl⟩ ?_ ?_
        · rintro i c σ' H' hc ⟨v, rfl, rfl⟩
          refine ⟨_, rfl, _, _, rfl, rfl, _, upd_same, ?_, ?_⟩
          · rw [List.length_map, List.length_map, List.length_take]
            exact Nat.lt_of_le_of_lt (Nat.min_le_right _ _) (small1000 (show z.cps.toList.length ≤ 1000 by rw [Array.length_toList]; exact Nat.le_trans n8 (by decide)))
          · refine ⟨_, rfl, ?_⟩
            rw [upd_upd, in_abc]
            have hc' : z.cps.toList[i]? = some c := by simpa using hc
            rw [← all_snoc letter z.cps.toList i c hc', List.map_append]
            rfl
        · rintro σ' H' ⟨v, rfl, rfl⟩
          refine ⟨D, _, rfl, .of upd_same, ?_⟩
          have e0 : z.cps.toList.take z.cps.size = z.cps.toList := List.take_of_length_le (by simp)
          have e1 : (z.cps.toList.map letter).all id = true := by rw [List.all_map]; exact na
          rw [e0, e1]
          exact q _ (same_upd hD)
theorem scTupN : FnScope ["thing"] ["thing"] (defScope sTupN) := ⟨rfl, rfl, rfl, by decide +kernel, rfl, by decide +kernel, by decide +kernel⟩
theorem ok_tupn {f fN : Addr} {fd fdN : FuncData} (F : Fun K "is_tuple_of_names" "is_tuple_of_names" sTupN f fd) (B : Blt mg) (G : KitG mg) (T : KitP K mg) (hN : Has K mg "is_name" sName ["thing"] fN fdN) : FnOk P w K mg base CX0 2 f fd ["thing"] spTN := by
  have GN : FnOk P w K mg base CX0 1 fN fdN ["thing"] spNm := ok_name hN.fn B T
  refine F.okJ scTupN (fun vs H Q E h => ?_) (fun cdv A outer s H vs Q E hr h => ?_)
  · obtain ⟨x, zs, rfl, _⟩ := h
    rfl
  · obtain ⟨x, zs, rfl, hx, hz, hl, q⟩ := h
    refine ⟨_, jss_one (js_ret (je_and (je_callB call_isinst (by rfl) T.isi boot_isinstance (ja_cons (jv 0) (ja_cons (je_bltn (v := .ty "tuple") (by rfl) G.tup boot_tuple rfl) ja_nil)))
      (je_one (je_callB (call_allB rfl) (by rfl) T.all boot_all (ja_cons (je_lc (N' := ["part"]) (ix := [none]) rfl ⟨rfl, rfl, rfl, rfl, rfl⟩ (ji_tup (jv 0)) (fun C s2 H2 fp pins =>
        ⟨jg_name (i := 0) (nd1 _) rfl (Or.inl rfl), jts_nil, je_f hN GN hr (by rfl) (ja_cons (jv 0) ja_nil)⟩)) ja_nil))))), ?_⟩
    refine ⟨_, rfl, _, _, _, _, rfl, rfl, .tup hx, T.ktt, _, rfl, iteT ⟨_, rfl, x, rfl, ⟨_, .of hx⟩, fun D hD => ?_⟩⟩
    refine blk_tup (K := K) (a := x) (xs := zs.map V.str) (fun i σ' H' => ∃ v, σ' = [v] ∧ Same H H' ∧ H' D = some (.lst ((List.replicate i true).map V.bl))) ⟨none, rfl, same_upd hD, upd_same⟩ (fun i σ' H' _ ⟨_, _, s, _⟩ => .of (s _ _ hx)) ?_ ?_
    · rintro i y σ' H' hy ⟨v, rfl, s1, hD1⟩
      rw [List.getElem?_map] at hy
      cases e : zs[i]? with
      | none => rw [e] at hy; cases hy
      | some z =>
        rw [e] at hy
        obtain rfl := (Option.some.inj hy).symm
        have hi := (List.getElem?_eq_some_iff.mp e).1
        refine ⟨_, rfl, z, rfl, hz z (List.mem_of_getElem? e), fun H2 s2 => ⟨_, s2 _ _ hD1, ?_, _, rfl, ?_, ?_⟩⟩
        · rw [List.length_map, List.length_replicate]
          exact small1000 (by omega)
        · exact Same.upd (s1.trans s2) hD
        · rw [upd_same, List.replicate_succ', List.map_append]
          rfl
    · rintro σ' H' ⟨v, rfl, s1, hD1⟩
      refine ⟨D, _, rfl, .of hD1, ?_⟩
      have e : (List.replicate (zs.map V.str).length true).all id = true := by simp
      rw [e]
      exact q _ s1
theorem scIsRow : FnScope ["thing"] ["thing"] (defScope sIsRow) := ⟨rfl, rfl, rfl, by decide +kernel, rfl, by decide +kernel, by decide +kernel⟩
theorem ok_isrow {f fN fP : Addr} {fd fdN fdP : FuncData} (F : Fun K "is_row" "is_row" sIsRow f fd) (B : Blt mg) (G : KitG mg) (T : KitP K mg) (hN : Has K mg "is_name" sName ["thing"] fN fdN) (hP : Has K mg "is_tuple_of_names" sTupN ["thing"] fP fdP) : FnOk P w K mg base CX0 3 f fd ["thing"] spRow := by
  have GN : FnOk P w K mg base CX0 1 fN fdN ["thing"] spNm := ok_name hN.fn B T
  have GP : FnOk P w K mg base CX0 2 fP fdP ["thing"] spTN := ok_tupn hP.fn B G T hN
  refine F.okJ scIsRow (fun vs H Q E h => ?_) (fun cdv A outer s H vs Q E hr h => ?_)
  · obtain ⟨p, x, r, rfl, _⟩ := h
    rfl
  · obtain ⟨p, x, r, rfl, hp, hx, hn, hz, hl, q⟩ := h
    refine ⟨_, jss_cons (js_if (jw_or (jt_not (jt_val (je_callB call_isinst (by rfl) T.isi boot_isinstance (ja_cons (jv 0) (ja_cons (je_bltn (v := .ty "tuple") (by rfl) G.tup boot_tuple rfl) ja_nil)))))
        (jw_or1 (jt_cmpR op_ne (je_callB call_len_seq (by rfl) B.len boot_len (ja_cons (jv 0) ja_nil)) je_int (nomark _)))).pt jss_never jss_nil)
      (jss_one (js_ret (je_and (je_f hN GN (hr.mono (by decide)) (by rfl) (ja_cons (je_ix ix_tup (jv 0) je_int (fun _ _ => rfl)) ja_nil)) (je_one (je_f hP GP hr (by rfl) (ja_cons (je_ix ix_tup (jv 0) je_int (fun _ _ => rfl)) ja_nil)))))), ?_⟩
    refine ⟨_, rfl, _, _, _, _, rfl, rfl, .tup hp, T.ktt, _, rfl, iteF ⟨_, rfl, p, _, rfl, .inr (.of hp), rfl, _, rfl, iteF ?_⟩⟩
    refine ⟨_, rfl, p, _, 0, _, rfl, rfl, .of hp, rfl, r.1, rfl, hn, fun H1 s1 => ⟨_, rfl, iteT ?_⟩⟩
    exact ⟨_, rfl, p, _, 1, _, rfl, rfl, .of (s1 _ _ hp), rfl, x, r.2, rfl, s1 _ _ hx, hz, hl, fun H2 s2 => q H2 (s1.trans s2)⟩
end
end Rh
set_option Elab.async false
set_option linter.all false
set_option maxRecDepth 100000
set_option maxHeartbeats 4000000
namespace Rh
open PySem L2 PyProof.Rows
section
variable {P : Program} {w : World} {K : PySem.W.Frag} {mg : Str → Option Value} {base : Heap}
abbrev nForm : List Str := ["rows", "number", "row"]
theorem scForm : FnScope nForm ["rows"] (defScope sForm) := ⟨rfl, rfl, rfl, by decide +kernel, rfl, by decide +kernel, by decide +kernel⟩
theorem ok_form {f fN fP fR : Addr} {fd fdN fdP fdR : FuncData} (F : Fun K "need_form" "need_form" sForm f fd) (B : Blt mg) (G : KitG mg) (T : KitP K mg) (hN : Has K mg "is_name" sName ["thing"] fN fdN) (hP : Has K mg "is_tuple_of_names" sTupN ["thing"] fP fdP)
    (hR : Has K mg "is_row" sIsRow ["thing"] fR fdR) : FnOk P w K mg base CX0 4 f fd ["rows"] spGood := by
  have GR : FnOk P w K mg base CX0 3 fR fdR ["thing"] spRow := ok_isrow hR.fn B G T hN hP
  obtain ⟨tm, hmp⟩ := T.mp
  refine F.okJ scForm (fun vs H Q E h => ?_) (fun cdv A outer s H vs Q E hr h => ?_)
  · obtain ⟨l, ps, rs, rfl, _⟩ := h
    rfl
  · obtain ⟨l, ps, rs, rfl, g, q⟩ := h
    refine ⟨_, jss_cons (js_if (jw_or (jt_not (jt_val (je_callB call_isinst (by rfl) T.isi boot_isinstance (ja_cons (jv 0) (ja_cons (je_bltn (v := .ty "list") (by rfl) G.lst boot_list rfl) ja_nil)))))
        (jw_or1 (jt_cmpR op_eq (je_callB call_len_seq (by rfl) B.len boot_len (ja_cons (jv 0) ja_nil)) je_int (nomark _)))).pt jss_never jss_nil)
      (jss_cons (js_if (jt_cmpR op_gt (je_callB call_len_seq (by rfl) B.len boot_len (ja_cons (jv 0) ja_nil)) (je_glob (v := .int 14) (by rfl) hmp ⟨_, rfl⟩) (nomark _)) jss_never jss_nil)
      (jss_one (js_for PassesOwn.never rfl (ji_enum (by rfl) T.enu (ja_cons (jv 0) ja_nil)) (jg_tup rfl (jgs_cons (jg_name (i := 1) scForm.nd rfl (Or.inl rfl)) (jgs_cons (jg_name (i := 2) scForm.nd rfl (Or.inl rfl)) jgs_nil)))
        (jss_one (js_if (jt_not (jt_val (je_f hR GR hr (by rfl) (ja_cons (jv 2) ja_nil)))) jss_never jss_nil))))), ?_⟩
    have lp : (ps.map V.ref).length = rs.length := by rw [List.length_map, g.rows.1]
    refine ⟨_, rfl, _, _, _, _, rfl, rfl, .lst g.at_, T.kll, _, rfl, iteF ⟨_, rfl, l, _, rfl, .inl (.of g.at_), rfl, _, rfl, ?_⟩⟩
    have e0 : decide (V.int (((ps.map V.ref).length : Nat) : Int) = V.int 0) = false := decide_eq_false (by
      intro z
      have := V.int.inj z
      have := g.pos
      omega)
    rw [e0]
    refine iteF ⟨_, rfl, l, _, rfl, .inl (.of g.at_), _, _, rfl, rfl, _, rfl, ?_⟩
    have e1 : decide ((14 : Int) < (((ps.map V.ref).length : Nat) : Int)) = false := decide_eq_false (by
      have := g.le
      omega)
    refine ite2 (fun z => absurd z (by rw [e1]; decide)) (fun _ => ?_)
    refine ⟨_, rfl, l, rfl, ⟨_, .of g.at_⟩, ?_⟩
    refine for_enum (K := K) (a := l) (xs := ps.map V.ref) (fun i σ' H' => ∃ v1 v2, σ' = [some (.ref l), v1, v2] ∧ Same H H') ⟨none, none, rfl, Same.refl H⟩ (fun i σ' H' _ ⟨_, _, _, s⟩ => .of (s _ _ g.at_)) ?_ ?_
    · rintro i x σ' H' p hx hp ⟨v1, v2, rfl, s1⟩
      have g1 := g.mono (s1.trans (same_upd (o := .tup [.int (i : Nat), x]) hp))
      obtain ⟨p', q', r, rfl, _, hr', a, b⟩ := g1.rows.item hx
      refine ⟨p, _, rfl, .of upd_same, rfl, _, _, rfl, _, _, rfl, rfl, _, rfl, p', q', r, rfl, a, b, g.good.nm r hr', g.good.names r hr', Nat.le_trans (g.good.len r hr') (by decide), fun H2 s2 => ⟨_, rfl, iteF ⟨_, _, rfl, ?_⟩⟩⟩
      exact (s1.trans (same_upd hp)).trans s2
    · rintro σ' H' ⟨v1, v2, rfl, s1⟩
      exact q H' s1
abbrev nOwn : List Str := ["order", "ahead", "name"]
theorem scOwn : FnScope nOwn ["order"] (defScope sOwn) := ⟨rfl, rfl, rfl, by decide +kernel, rfl, by decide +kernel, by decide +kernel⟩
theorem not_taken {zs : List Str} (hn : zs.Nodup) {i : Nat} {z : Str} (e : zs[i]? = some z) : ¬ (Sum.inr z : Key) ∈ (zs.take i).map Sum.inr := fun h => by
  obtain ⟨y, hy, ey⟩ := List.mem_map.mp h
  have ey' : y = z := Sum.inr.inj ey
  subst ey'
  obtain ⟨j, hj⟩ := List.getElem?_of_mem hy
  have hj1 := (List.getElem?_eq_some_iff.mp hj).1
  rw [List.length_take] at hj1
  have hji : j < i := by omega
  rw [List.getElem?_take_of_lt hji] at hj
  have h1 := (List.getElem?_eq_some_iff.mp hj)
  have h2 := (List.getElem?_eq_some_iff.mp e)
  exact absurd (h1.2.trans h2.2.symm) (List.pairwise_iff_getElem.mp hn j i h1.1 h2.1 hji)
theorem put_new {kvs : List (Key × V)} {k : Key} (v : V) (h : valV kvs k = none) : (putK kvs k v).map (·.1) = kvs.map (·.1) ++ [k] := by
  rw [putK_new v h, List.map_append]
  rfl
theorem ok_own {f : Addr} {fd : FuncData} (F : Fun K "need_own_names" "need_own_names" sOwn f fd) : FnOk P w K mg base CX0 1 f fd ["order"] spOwn := by
  refine F.okJ scOwn (fun vs H Q E h => ?_) (fun cdv A outer s H vs Q E hr h => ?_)
  · obtain ⟨l, zs, rfl, _⟩ := h
    rfl
  · obtain ⟨l, zs, rfl, hl, hn, hz, q⟩ := h
    have hu := hu_of hr
    refine ⟨_, jss_cons (js_set (i := 1) scOwn.nd rfl (Or.inl rfl) je_dnewK)
      (jss_one (js_for PassesOwn.never rfl (ji_list (jv 0)) (jg_name (i := 2) scOwn.nd rfl (Or.inl rfl))
        (jss_cons (js_if (jt_cmp (jc_din hu (jv 2) (jv 1))) jss_never jss_nil) (jss_one (js_dput hu (jv 1) (jv 2) je_bl rfl))))), ?_⟩
    intro D hD
    refine ⟨_, rfl, l, rfl, ⟨_, .of (upd_keep hl hD)⟩, ?_⟩
    refine for_list (K := K) (a := l) (xs := zs.map V.str) (fun i σ' H' => ∃ v kvs, σ' = [some (.ref l), some (.ref D), v] ∧ Same H H' ∧ H' D = some (.dK kvs) ∧ kvs.map (·.1) = (zs.take i).map Sum.inr) ⟨none, [], rfl, same_upd hD, upd_same, rfl⟩ (fun i σ' H' _ ⟨_, _, _, s, _⟩ => .of (s _ _ hl)) ?_ ?_
    · rintro i x σ' H' hx ⟨v, kvs, rfl, s1, hD1, ek⟩
      rw [List.getElem?_map] at hx
      cases e : zs[i]? with
      | none => rw [e] at hx; cases hx
      | some z =>
        rw [e] at hx
        obtain rfl := (Option.some.inj hx).symm
        have hi := (List.getElem?_eq_some_iff.mp e).1
        have ez : valV kvs (Sum.inr z : Key) = none := valV_out (by rw [ek]; exact not_taken hn e)
        have gz : DGet H' D (.str z) none := by
          have := DGet.k (k := (Sum.inr z : Key)) hD1
          rw [ez] at this
          exact this
        have lk : kvs.length < sizeLine := by
          have := congrArg List.length ek
          rw [List.length_map, List.length_map, List.length_take] at this
          exact small1000 (by omega)
        refine ⟨_, rfl, _, rfl, D, none, rfl, gz, _, rfl, iteF ?_⟩
        refine ⟨_, rfl, _, rfl, D, _, rfl, DPut.k (k := (Sum.inr z : Key)) hD1 lk, _, _, rfl, Same.upd s1 hD, upd_same, ?_⟩
        rw [put_new _ ez, ek, List.take_add_one, e, List.map_append]
        rfl
    · rintro σ' H' ⟨v, kvs, rfl, s1, _⟩
      exact q H' s1
abbrev nEnds : List Str := ["ends", "order", "ahead", "name"]
theorem scEnds : FnScope nEnds ["ends", "order"] (defScope sEnds) := ⟨rfl, rfl, rfl, by decide +kernel, rfl, by decide +kernel, by decide +kernel⟩
theorem ok_ends {f : Addr} {fd : FuncData} (F : Fun K "need_ends" "need_ends" sEnds f fd) : FnOk P w K mg base CX0 1 f fd ["ends", "order"] spEnds := by
  refine F.okJ scEnds (fun vs H Q E h => ?_) (fun cdv A outer s H vs Q E hr h => ?_)
  · obtain ⟨x, l, es, zs, rfl, _⟩ := h
    rfl
  · obtain ⟨x, l, es, zs, rfl, hx, hl, hn, hin, hz, q⟩ := h
    have hu := hu_of hr
    refine ⟨_, jss_cons (js_set (i := 2) scEnds.nd rfl (Or.inl rfl) je_dnewK)
      (jss_one (js_for PassesOwn.never rfl (ji_tup (jv 0)) (jg_name (i := 3) scEnds.nd rfl (Or.inl rfl))
        (jss_cons (js_if (jt_cmpR op_notIn_seq (jv 3) (jv 1) (by with_unfolding_all rfl)) jss_never jss_nil)
        (jss_cons (js_if (jt_cmp (jc_din hu (jv 3) (jv 2))) jss_never jss_nil) (jss_one (js_dput hu (jv 2) (jv 3) je_bl rfl)))))), ?_⟩
    intro D hD
    refine ⟨_, rfl, x, rfl, ⟨_, .of (upd_keep hx hD)⟩, ?_⟩
    refine for_tup (K := K) (a := x) (xs := es.map V.str) (fun i σ' H' => ∃ v kvs, σ' = [some (.ref x), some (.ref l), some (.ref D), v] ∧ Same H H' ∧ H' D = some (.dK kvs) ∧ kvs.map (·.1) = (es.take i).map Sum.inr) ⟨none, [], rfl, same_upd hD, upd_same, rfl⟩ (fun i σ' H' _ ⟨_, _, _, s, _⟩ => .of (s _ _ hx)) ?_ ?_
    · rintro i y σ' H' hy ⟨v, kvs, rfl, s1, hD1, ek⟩
      rw [List.getElem?_map] at hy
      cases e : es[i]? with
      | none => rw [e] at hy; cases hy
      | some z =>
        rw [e] at hy
        obtain rfl := (Option.some.inj hy).symm
        have hi := (List.getElem?_eq_some_iff.mp e).1
        have ez : valV kvs (Sum.inr z : Key) = none := valV_out (by rw [ek]; exact not_taken hn e)
        have gz : DGet H' D (.str z) none := by
          have := DGet.k (k := (Sum.inr z : Key)) hD1
          rw [ez] at this
          exact this
        have lk : kvs.length < sizeLine := by
          have := congrArg List.length ek
          rw [List.length_map, List.length_map, List.length_take] at this
          exact small1000 (by omega)
        refine ⟨_, rfl, _, rfl, l, _, rfl, .inl (.of (s1 _ _ hl)), rfl, flat_strs zs, _, rfl, ?_⟩
        rw [inV_str (hin z (List.mem_of_getElem? e))]
        refine iteF ⟨_, rfl, _, rfl, D, none, rfl, gz, _, rfl, iteF ?_⟩
        refine ⟨_, rfl, _, rfl, D, _, rfl, DPut.k (k := (Sum.inr z : Key)) hD1 lk, _, _, rfl, Same.upd s1 hD, upd_same, ?_⟩
        rw [put_new _ ez, ek, List.take_add_one, e, List.map_append]
        rfl
    · rintro σ' H' ⟨v, kvs, rfl, s1, _⟩
      exact q H' s1
abbrev nFew : List Str := ["rows", "many"]
theorem scFew : FnScope nFew ["rows"] (defScope sFew) := ⟨rfl, rfl, rfl, by decide +kernel, rfl, by decide +kernel, by decide +kernel⟩
theorem ok_few {f : Addr} {fd : FuncData} (F : Fun K "need_few_roads" "need_few_roads" sFew f fd) (B : Blt mg) (T : KitP K mg) : FnOk P w K mg base CX0 1 f fd ["rows"] spGood := by
  obtain ⟨tm, hmr⟩ := T.mr
  refine F.okJ scFew (fun vs H Q E h => ?_) (fun cdv A outer s H vs Q E hr h => ?_)
  · obtain ⟨l, ps, rs, rfl, _⟩ := h
    rfl
  · obtain ⟨l, ps, rs, rfl, g, q⟩ := h
    refine ⟨_, jss_cons (js_set (i := 1) scFew.nd rfl (Or.inl rfl) (je_callB (call_sumN rfl) (by rfl) T.sum boot_sum (ja_cons (je_lc (N' := ["row"]) (ix := [none]) (te := tCB (fun xs H Q => ∃ p ys, xs = [.ref p] ∧ (SqL K H p ys ∨ SqT K H p ys) ∧ Q (.int ys.length) H) (tCons (tOp (rIxT K) (tVar 0) (tC (.int 1))) tNil)) rfl ⟨rfl, rfl, rfl, rfl, rfl⟩ (ji_list (jv 0)) (fun C s2 H2 fp pins =>
        ⟨jg_name (i := 0) (nd1 _) rfl (Or.inl rfl), jts_nil, je_callB call_len_seq (by rfl) B.len boot_len (ja_cons (je_ix ix_tup (jv 0) je_int (fun _ _ => rfl)) ja_nil)⟩)) ja_nil)))
      (jss_one (js_if (jt_cmpR op_gt (jv 1) (je_glob (v := .int 40) (by rfl) hmr ⟨_, rfl⟩) (nomark _)) jss_never jss_nil)), ?_⟩
    refine ⟨_, rfl, l, rfl, ⟨_, .of g.at_⟩, fun D hD => ?_⟩
    refine blk_list (K := K) (a := l) (xs := ps.map V.ref) (fun i σ' H' => ∃ v, σ' = [v] ∧ H' = upd H D (.lst (((rs.take i).map fun r => r.2.length).map fun n => V.int ((n : Nat) : Int)))) ⟨none, rfl, rfl⟩ (fun i σ' H' _ ⟨_, _, e⟩ => e ▸ .of (upd_keep g.at_ hD)) ?_ ?_
    · rintro i x σ' H' hx ⟨v, rfl, rfl⟩
      obtain ⟨p', q', r, rfl, er, hr', a, b⟩ := g.rows.item hx
      have hi := (List.getElem?_eq_some_iff.mp er).1
      refine ⟨_, rfl, p', _, 1, _, rfl, rfl, .of (upd_keep a hD), rfl, q', _, rfl, .inr (.of (upd_keep b hD)), _, upd_same, ?_, _, rfl, ?_⟩
      · rw [List.length_map, List.length_map, List.length_take]
        have := g.le
        exact small1000 (by omega)
      · rw [upd_upd, List.take_add_one, er, List.map_append, List.map_append, List.length_map]
        rfl
    · rintro σ' H' ⟨v, rfl, rfl⟩
      have e : rs.take (ps.map V.ref).length = rs := List.take_of_length_le (by rw [List.length_map, g.rows.1]; exact Nat.le_refl _)
      rw [e]
      refine ⟨D, _, rfl, .of upd_same, Nat.lt_of_le_of_lt g.good.few (by decide), ?_⟩
      refine ⟨_, rfl, _, _, rfl, rfl, _, rfl, ?_⟩
      have := g.good.few
      refine ite2 (fun z => absurd (of_decide_eq_true z) ?_) (fun _ => q _ (same_upd hD))
      show ¬ (40 : Int) < _
      omega
abbrev nNeed : List Str := ["rows", "order", "row"]
theorem scNeed : FnScope nNeed ["rows"] (defScope sNeed) := ⟨rfl, rfl, rfl, by decide +kernel, rfl, by decide +kernel, by decide +kernel⟩
structure HasN (K : PySem.W.Frag) (mg : Str → Option Value) : Prop where
  nm : ∃ f fd, Has K mg "is_name" sName ["thing"] f fd
  tn : ∃ f fd, Has K mg "is_tuple_of_names" sTupN ["thing"] f fd
  rw : ∃ f fd, Has K mg "is_row" sIsRow ["thing"] f fd
  fo : ∃ f fd, Has K mg "need_form" sForm ["rows"] f fd
  ow : ∃ f fd, Has K mg "need_own_names" sOwn ["order"] f fd
  en : ∃ f fd, Has K mg "need_ends" sEnds ["ends", "order"] f fd
  fw : ∃ f fd, Has K mg "need_few_roads" sFew ["rows"] f fd
theorem ok_need {f : Addr} {fd : FuncData} (F : Fun K "need_rows" "need_rows" sNeed f fd) (B : Blt mg) (G : KitG mg) (T : KitP K mg) (N : HasN K mg) : FnOk P w K mg base CX0 5 f fd ["rows"] spGood := by
  obtain ⟨fN, fdN, hN⟩ := N.nm
  obtain ⟨fP, fdP, hP⟩ := N.tn
  obtain ⟨fR, fdR, hR⟩ := N.rw
  obtain ⟨fF, fdF, hF⟩ := N.fo
  obtain ⟨fO, fdO, hO⟩ := N.ow
  obtain ⟨fE, fdE, hE⟩ := N.en
  obtain ⟨fW, fdW, hW⟩ := N.fw
  have GF : FnOk P w K mg base CX0 4 fF fdF ["rows"] spGood := ok_form hF.fn B G T hN hP hR
  have GO : FnOk P w K mg base CX0 1 fO fdO ["order"] spOwn := ok_own hO.fn
  have GE : FnOk P w K mg base CX0 1 fE fdE ["ends", "order"] spEnds := ok_ends hE.fn
  have GW : FnOk P w K mg base CX0 1 fW fdW ["rows"] spGood := ok_few hW.fn B T
  refine F.okJ scNeed (fun vs H Q E h => ?_) (fun cdv A outer s H vs Q E hr h => ?_)
  · obtain ⟨l, ps, rs, rfl, _⟩ := h
    rfl
  · obtain ⟨l, ps, rs, rfl, g, q⟩ := h
    refine ⟨_, jss_cons (js_expr (je_f hF GF hr (by rfl) (ja_cons (jv 0) ja_nil)))
      (jss_cons (js_setLC (i := 1) (N' := ["row"]) (ix := [none]) (te := tOp (rIxT K) (tVar 0) (tC (.int 0))) scNeed.nd rfl (Or.inl rfl) rfl ⟨rfl, rfl, rfl, rfl, rfl⟩ (ji_list (jv 0)) (fun C s2 H2 fp pins =>
        ⟨jg_name (i := 0) (nd1 _) rfl (Or.inl rfl), jts_nil, je_ix ix_tup (jv 0) je_int (fun _ _ => rfl)⟩))
      (jss_cons (js_expr (je_f hO GO (hr.mono (by decide)) (by rfl) (ja_cons (jv 1) ja_nil)))
      (jss_cons (js_for PassesOwn.never rfl (ji_list (jv 0)) (jg_name (i := 2) scNeed.nd rfl (Or.inl rfl))
        (jss_one (js_expr (je_f hE GE (hr.mono (by decide)) (by rfl) (ja_cons (je_ix ix_tup (jv 2) je_int (fun _ _ => rfl)) (ja_cons (jv 1) ja_nil))))))
      (jss_one (js_expr (je_f hW GW (hr.mono (by decide)) (by rfl) (ja_cons (jv 0) ja_nil))))))), ?_⟩
    refine ⟨_, rfl, l, ps, rs, rfl, g, fun H1 s1 => ?_⟩
    have g1 := g.mono s1
    refine ⟨_, rfl, l, rfl, ⟨_, .of g1.at_⟩, fun D hD => ?_⟩
    refine blk_list (K := K) (a := l) (xs := ps.map V.ref) (fun i σ' H' => ∃ v, σ' = [v] ∧ H' = upd H1 D (.lst (((rs.take i).map (·.1)).map V.str))) ⟨none, rfl, rfl⟩ (fun i σ' H' _ ⟨_, _, e⟩ => e ▸ .of (upd_keep g1.at_ hD)) ?_ ?_
    · rintro i x σ' H' hx ⟨v, rfl, rfl⟩
      obtain ⟨p', q', r, rfl, er, hr', a, b⟩ := g1.rows.item hx
      have hi := (List.getElem?_eq_some_iff.mp er).1
      refine ⟨_, rfl, p', _, 0, _, rfl, rfl, .of (upd_keep a hD), rfl, _, upd_same, ?_, _, rfl, ?_⟩
      · rw [List.length_map, List.length_map, List.length_take]
        have := g.le
        exact small1000 (by omega)
      · rw [upd_upd, List.take_add_one, er, List.map_append, List.map_append]
        rfl
    · rintro σ' H' ⟨v, rfl, rfl⟩
      have e : rs.take (ps.map V.ref).length = rs := List.take_of_length_le (by rw [List.length_map, g.rows.1]; exact Nat.le_refl _)
      rw [e]
      refine ⟨_, rfl, D, rs.map (·.1), rfl, upd_same, g.good.nd, by rw [List.length_map]; have := g.le; omega, fun H2 s2 => ?_⟩
      have sD : Same H1 H2 := (same_upd hD).trans s2
      have hD2 : H2 D = some (.lst ((rs.map (·.1)).map V.str)) := s2 _ _ upd_same
      have g2 := g1.mono sD
      refine ⟨_, rfl, l, rfl, ⟨_, .of g2.at_⟩, ?_⟩
      refine for_list (K := K) (a := l) (xs := ps.map V.ref) (fun i σ' H' => ∃ v, σ' = [some (.ref l), some (.ref D), v] ∧ Same H2 H') ⟨none, rfl, Same.refl H2⟩ (fun i σ' H' _ ⟨_, _, s⟩ => .of (s _ _ g2.at_)) ?_ ?_
      · rintro i x σ' H' hx ⟨v, rfl, s3⟩
        obtain ⟨p', q', r, rfl, er, hr', a, b⟩ := (g2.mono s3).rows.item hx
        refine ⟨_, rfl, p', _, 1, _, rfl, rfl, .of a, rfl, _, rfl, q', D, r.2, rs.map (·.1), rfl, b, s3 _ _ hD2, g.good.rd r hr', g.good.to r hr', Nat.le_trans (g.good.len r hr') (by decide), fun H4 s4 => ⟨_, rfl, s3.trans s4⟩⟩
      · rintro σ' H' ⟨v, rfl, s3⟩
        exact ⟨_, rfl, l, ps, rs, rfl, g2.mono s3, fun H4 s4 => q H4 (((s1.trans sD).trans s3).trans s4)⟩
end
end Rh
set_option Elab.async false
set_option linter.all false
set_option maxRecDepth 100000
set_option maxHeartbeats 4000000
namespace Rh
open PySem L2 PyProof.Rows
abbrev sGInit : Stmt := inClass (top 25) 0
abbrev sGNames : Stmt := inClass (top 25) 1
abbrev sGFrom : Stmt := inClass (top 25) 2
def rdOf (rs : List (Str × List Str)) (r : Str × List Str) : List Str := (rs.map (·.1)).filter fun z => inV (.str z) (r.2.map V.str)
def GrAt (CG : Addr) (H : Hp) (a : Addr) (rs : List (Str × List Str)) : Prop := ∃ (dx lo rd : Addr) (kvs : List (Key × V)), H a = some (.ins CG dx [("order", .ref lo), ("roads", .ref rd)]) ∧ H lo = some (.lst ((rs.map (·.1)).map V.str)) ∧ H rd = some (.dK kvs) ∧
  ∀ r ∈ rs, ∃ q, valV kvs (Sum.inr r.1) = some (.ref q) ∧ H q = some (.lst ((rdOf rs r).map V.str))
theorem GrAt.mono {CG : Addr} {H H' : Hp} {a : Addr} {rs : List (Str × List Str)} (h : GrAt CG H a rs) (s : Same H H') : GrAt CG H' a rs := by
  obtain ⟨dx, lo, rd, kvs, h1, h2, h3, h4⟩ := h
  exact ⟨dx, lo, rd, kvs, s _ _ h1, s _ _ h2, s _ _ h3, fun r hr => let ⟨q, a, b⟩ := h4 r hr; ⟨q, a, s _ _ b⟩⟩
theorem GoodAt.fr {H H' : Hp} {l x C dx : Addr} {fs : List (Str × V)} {ps : List Addr} {rs : List (Str × List Str)} (h : GoodAt H l ps rs) (hx : H x = some (.ins C dx fs)) (s : Fr H x H') : GoodAt H' l ps rs := by
  refine ⟨s _ _ h.at_ (fun e => ?_), ⟨h.rows.1, fun i p r e1 e2 => ?_⟩, h.good, h.pos, h.le⟩
  · have := h.at_
    rw [e, hx] at this
    cases this
  · obtain ⟨q, a, b⟩ := h.rows.2 i p r e1 e2
    exact ⟨q, s _ _ a (fun e => by rw [e, hx] at a; cases a), s _ _ b (fun e => by rw [e, hx] at b; cases b)⟩
structure ClG (K : PySem.W.Frag) (mg : Str → Option Value) (CG f : Addr) (fd : FuncData) : Prop where
  cl : Cls K CG
  mkr : Mk K CG f
  ns : mg "Ground" = some (.ref CG)
  no : NoAttr K CG "order"
  nr : NoAttr K CG "roads"
  fn : Fun K "__init__" "Ground.__init__" sGInit f fd
  bi : Binds K fd ["self", "rows"] []
theorem nor : ¬ (Str.ofString "order") = Str.ofString "roads" := by decide +kernel
theorem put1 (v : V) : putF (Str.ofString "order") v [] = [(Str.ofString "order", v)] := rfl
theorem put2 (v u : V) : putF (Str.ofString "roads") u [(Str.ofString "order", v)] = [(Str.ofString "order", v), (Str.ofString "roads", u)] := by
  unfold putF
  rw [if_neg nor]
  rfl
theorem lkO (v u : V) : ([(Str.ofString "order", v), (Str.ofString "roads", u)] : List (Str × V)).lookup (Str.ofString "order") = some v := by simp [List.lookup]
theorem lkR (v u : V) : ([(Str.ofString "order", v), (Str.ofString "roads", u)] : List (Str × V)).lookup (Str.ofString "roads") = some u := by
  have e : ((Str.ofString "roads") == (Str.ofString "order")) = false := by decide +kernel
  simp [List.lookup, e]
def spGInit (CG : Addr) : Sp := fun vs H Q _ => ∃ (x dx l : Addr) (ps : List Addr) (rs : List (Str × List Str)), vs = [.ref x, .ref l] ∧ GoodAt H l ps rs ∧ H x = some (.ins CG dx []) ∧ ∀ H', GrAt CG H' x rs → Fr H x H' → Q .non H'
def spGNames (CG : Addr) : Sp := fun vs H Q _ => ∃ (a : Addr) (rs : List (Str × List Str)), vs = [.ref a] ∧ GrAt CG H a rs ∧ ∀ l, H l = none → Q (.ref l) (upd H l (.lst ((rs.map (·.1)).map V.str)))
def spGFrom (CG : Addr) : Sp := fun vs H Q _ => ∃ (a : Addr) (rs : List (Str × List Str)) (r : Str × List Str), vs = [.ref a, .str r.1] ∧ GrAt CG H a rs ∧ r ∈ rs ∧ isName r.1 = true ∧ ∀ H1 l, Same H H1 → H1 l = none → Q (.ref l) (upd H1 l (.lst ((rdOf rs r).map V.str)))
section
variable {P : Program} {w : World} {K : PySem.W.Frag} {mg : Str → Option Value} {base : Heap}
abbrev nGI : List Str := ["self", "rows", "row"]
theorem scGI : FnScope nGI ["self", "rows"] (defScope sGInit) := ⟨rfl, rfl, rfl, by decide +kernel, rfl, by decide +kernel, by decide +kernel⟩
theorem ok_ginit {f fW CG : Addr} {fd fdW : FuncData} (C : ClG K mg CG f fd) (B : Blt mg) (G : KitG mg) (T : KitP K mg) (N : HasN K mg) (hW : Has K mg "need_rows" sNeed ["rows"] fW fdW) : FnOk P w K mg base CX0 6 f fd ["self", "rows"] (spGInit CG) := by
  have GW : FnOk P w K mg base CX0 5 fW fdW ["rows"] spGood := ok_need hW.fn B G T N
  refine C.fn.okJ scGI (fun vs H Q E h => ?_) (fun cdv A outer s H vs Q E hr h => ?_)
  · obtain ⟨x, dx, l, ps, rs, rfl, _⟩ := h
    rfl
  · obtain ⟨x, dx, l, ps, rs, rfl, g, hx, q⟩ := h
    have hu := hu_of hr
    refine ⟨_, jss_cons (js_expr (je_f hW GW hr (by rfl) (ja_cons (jv 1) ja_nil)))
      (jss_cons (js_fld (jv 0) (je_lc (N' := ["row"]) (ix := [none]) (te := tOp (rIxT K) (tVar 0) (tC (.int 0))) rfl ⟨rfl, rfl, rfl, rfl, rfl⟩ (ji_list (jv 1)) (fun C s2 H2 fp pins =>
        ⟨jg_name (i := 0) (nd1 _) rfl (Or.inl rfl), jts_nil, je_ix ix_tup (jv 0) je_int (fun _ _ => rfl)⟩)) rfl)
      (jss_cons (js_fld (jv 0) je_dnewK rfl)
      (jss_one (js_for PassesOwn.never rfl (ji_list (jv 1)) (jg_name (i := 2) scGI.nd rfl (Or.inr rfl))
        (jss_one (js_dput hu (je_fld (jv 0) rfl) (je_ix ix_tup (jv 2) je_int (fun _ _ => rfl))
          (je_lc (N' := ["name", "row"]) (ix := [none, some 2]) (tt := tTest (tOp (rIn K false) (tVar 0) (tOp (rIxT K) (tVar 1) (tC (.int 1))))) rfl ⟨rfl, rfl, rfl, rfl, rfl⟩ (ji_list (je_fld (jv 0) rfl)) (fun C s2 H2 fp pins =>
            ⟨jg_name (i := 0) (show (["name", "row"] : List Str).Nodup by decide +kernel) rfl (Or.inl rfl), jts_one (jt_cmpR op_in_seq (jv 0) (je_ix ix_tup (jv 1) je_int (fun _ _ => rfl)) (by with_unfolding_all rfl)), jv 0⟩)) rfl)))))), ?_⟩
    refine ⟨_, rfl, l, ps, rs, rfl, g, fun H1 s1 => ?_⟩
    have g1 := g.mono s1
    have fr1 : Fr H x H1 := fun b u h _ => s1 _ _ h
    have hx1 := s1 _ _ hx
    refine ⟨_, rfl, l, rfl, ⟨_, .of g1.at_⟩, fun lo hlo => ?_⟩
    have nlx : lo ≠ x := fun e => by rw [e, hx1] at hlo; cases hlo
    refine blk_list (K := K) (a := l) (xs := ps.map V.ref) (fun i σ' H' => ∃ v, σ' = [v] ∧ H' = upd H1 lo (.lst (((rs.take i).map (·.1)).map V.str))) ⟨none, rfl, rfl⟩ (fun i σ' H' _ ⟨_, _, e⟩ => e ▸ .of (upd_keep g1.at_ hlo)) ?_ ?_
    · rintro i y σ' H' hy ⟨v, rfl, rfl⟩
      obtain ⟨p', q', r, rfl, er, hr', a, b⟩ := g1.rows.item hy
      have hi := (List.getElem?_eq_some_iff.mp er).1
      refine ⟨_, rfl, p', _, 0, _, rfl, rfl, .of (upd_keep a hlo), rfl, _, upd_same, ?_, _, rfl, ?_⟩
      · rw [List.length_map, List.length_map, List.length_take]
        have := g.le
        exact small1000 (by omega)
      · rw [upd_upd, List.take_add_one, er, List.map_append, List.map_append]
        rfl
    rintro σ' H' ⟨v, rfl, rfl⟩
    have e : rs.take (ps.map V.ref).length = rs := List.take_of_length_le (by rw [List.length_map, g.rows.1]; exact Nat.le_refl _)
    rw [e]
    have fr2 : Fr H x (upd H1 lo (.lst ((rs.map (·.1)).map V.str))) := fr1.new hlo
    have hlo2 : upd H1 lo (.lst ((rs.map (·.1)).map V.str)) lo = some (.lst ((rs.map (·.1)).map V.str)) := upd_same
    have hx2 : upd H1 lo (.lst ((rs.map (·.1)).map V.str)) x = some (.ins CG dx []) := upd_keep hx1 hlo
    generalize upd H1 lo (.lst ((rs.map (·.1)).map V.str)) = H2 at fr2 hlo2 hx2
    refine ⟨_, rfl, x, CG, dx, [], rfl, hx2, C.cl, C.no, by decide, ?_⟩
    rw [put1]
    intro rd hrd
    have nrx : rd ≠ x := fun e => by rw [e, upd_same] at hrd; cases hrd
    have hrd2 : H2 rd = none := by rw [upd_ne nrx] at hrd; exact hrd
    have nrl : rd ≠ lo := fun e => by rw [e, hlo2] at hrd2; cases hrd2
    have hHr : H rd = none := fr2.fresh hx2 hrd2
    refine ⟨_, rfl, x, CG, dx, _, rfl, upd_keep upd_same hrd, C.cl, C.nr, by show 1 < 1000; decide, ?_⟩
    rw [put2]
    have fr5 : Fr H x (upd (upd (upd H2 x (.ins CG dx [("order", .ref lo)])) rd (.dK [])) x (.ins CG dx [("order", .ref lo), ("roads", .ref rd)])) := ((fr2.at_d).own hHr).at_d
    have g5 := g.fr hx fr5
    refine ⟨_, rfl, l, rfl, ⟨_, .of g5.at_⟩, ?_⟩
    refine for_list (K := K) (a := l) (xs := ps.map V.ref) (fun i σ' H' => ∃ v kvs, σ' = [some (.ref x), some (.ref l), v] ∧ H' x = some (.ins CG dx [("order", .ref lo), ("roads", .ref rd)]) ∧ H' lo = some (.lst ((rs.map (·.1)).map V.str)) ∧ H' rd = some (.dK kvs) ∧
      kvs.map (·.1) = ((rs.map (·.1)).take i).map Sum.inr ∧ (∀ r ∈ rs.take i, ∃ q, valV kvs (Sum.inr r.1) = some (.ref q) ∧ H' q = some (.lst ((rdOf rs r).map V.str))) ∧ Fr H x H')
      ⟨none, [], rfl, upd_same, ?_, ?_, rfl, fun r h => (nomatch h), fr5⟩ (fun i σ' H' _ ⟨_, _, _, _, _, _, _, _, fr⟩ => .of (g.fr hx fr).at_) ?_ ?_
    · rw [upd_ne nlx, upd_ne (Ne.symm nrl), upd_ne nlx]
      exact hlo2
    · rw [upd_ne nrx]
      exact upd_same
    · rintro i y σ' H' hy ⟨v, kvs, rfl, hx', hlo', hrd', ek, hv, fr⟩
      have g' := g.fr hx fr
      obtain ⟨p, qq, r, rfl, er, hr', a, b⟩ := g'.rows.item hy
      have hi := (List.getElem?_eq_some_iff.mp er).1
      have hle := g.le
      refine ⟨_, rfl, x, CG, dx, _, _, rfl, hx', C.cl, C.no, lkO _ _, lo, rfl, ⟨_, .of hlo'⟩, fun D hD => ?_⟩
      refine blk_list (K := K) (a := lo) (xs := (rs.map (·.1)).map V.str) (fun j σ'' H'' => ∃ v0, σ'' = [v0, some (.ref p)] ∧ H'' = upd H' D (.lst ((((rs.map (·.1)).take j).filter fun z => inV (.str z) (r.2.map V.str)).map V.str))) ⟨none, rfl, rfl⟩
        (fun j σ'' H'' _ ⟨_, _, e⟩ => e ▸ .of (upd_keep hlo' hD)) ?_ ?_
      · rintro j y σ'' H'' hy ⟨v0, rfl, rfl⟩
        rw [List.getElem?_map] at hy
        cases e : (rs.map (·.1))[j]? with
        | none => rw [e] at hy; cases hy
        | some z =>
          rw [e] at hy
          obtain rfl := (Option.some.inj hy).symm
          refine ⟨_, rfl, _, rfl, p, _, 1, _, rfl, rfl, .of (upd_keep a hD), rfl, qq, _, rfl, .inr (.of (upd_keep b hD)), rfl, flat_strs _, _, rfl, ?_⟩
          have et : ((rs.map (·.1)).take (j + 1)).filter (fun z => inV (.str z) (r.2.map V.str)) = ((rs.map (·.1)).take j).filter (fun z => inV (.str z) (r.2.map V.str)) ++ if inV (.str z) (r.2.map V.str) = true then [z] else [] := by
            rw [List.take_add_one, e, List.filter_append]
            congr 1
            cases ei : inV (.str z) (r.2.map V.str)
            · simp [ei]
            · simp [ei]
          rw [et]
          show if inV (.str z) (r.2.map V.str) = true then _ else _
          cases ei : inV (.str z) (r.2.map V.str) with
          | true =>
            refine iteT ⟨_, rfl, _, upd_same, ?_, _, rfl, ?_⟩
            · rw [List.length_map]
              refine small1000 (Nat.le_trans (List.length_filter_le _ _) ?_)
              rw [List.length_take, List.length_map]
              omega
            · rw [upd_upd, if_pos rfl, List.map_append]
              rfl
          | false =>
            refine iteF ⟨_, rfl, ?_⟩
            rw [if_neg Bool.false_ne_true, List.append_nil]
      · rintro σ'' H'' ⟨v0, rfl, rfl⟩
        have ed : ((rs.map (·.1)).take ((rs.map (·.1)).map V.str).length).filter (fun z => inV (.str z) (r.2.map V.str)) = rdOf rs r := by
          rw [List.length_map, List.take_of_length_le (Nat.le_refl _)]
          rfl
        rw [ed]
        have nD : ∀ {c : Addr} {o : HO}, H' c = some o → c ≠ D := fun h e => by rw [e, hD] at h; cases h
        have en : (rs.map (·.1))[i]? = some r.1 := by rw [List.getElem?_map, er]; rfl
        have ez : valV kvs (Sum.inr r.1 : Key) = none := valV_out (by rw [ek]; exact not_taken g.good.nd en)
        have lk : kvs.length < sizeLine := by
          have := congrArg List.length ek
          rw [List.length_map, List.length_map, List.length_take, List.length_map] at this
          exact small1000 (by omega)
        refine ⟨_, rfl, x, CG, dx, _, _, rfl, upd_keep hx' hD, C.cl, C.nr, lkR _ _, _, rfl, p, _, 0, _, rfl, rfl, .of (upd_keep a hD), rfl, rd, _, rfl, DPut.k (k := (Sum.inr r.1 : Key)) (upd_keep hrd' hD) lk, ?_⟩
        refine ⟨_, putK kvs (Sum.inr r.1) (.ref D), rfl, ?_, ?_, upd_same, ?_, fun r' hr2 => ?_, ?_⟩
        · rw [upd_ne (Ne.symm nrx)]; exact upd_keep hx' hD
        · rw [upd_ne (Ne.symm nrl)]; exact upd_keep hlo' hD
        · rw [put_new _ ez, ek, List.take_add_one, en, List.map_append]
          rfl
        · rw [List.take_add_one, er] at hr2
          rcases List.mem_append.mp hr2 with h | h
          · obtain ⟨q1, a1, b1⟩ := hv r' h
            refine ⟨q1, ?_, ?_⟩
            · rw [valV_put, if_neg]
              · exact a1
              · intro z
                rw [z, ez] at a1
                cases a1
            · have n1 : q1 ≠ rd := fun e => by rw [e, hrd'] at b1; cases b1
              rw [upd_ne n1]
              exact upd_keep b1 hD
          · have er' : r' = r := by simpa using h
            subst er'
            refine ⟨D, ?_, ?_⟩
            · rw [valV_put, if_pos rfl]
            · rw [upd_ne (Ne.symm (nD hrd'))]
              exact upd_same
        · exact (fr.new hD).own hHr
    · rintro σ' H' ⟨v, kvs, rfl, hx', hlo', hrd', ek, hv, fr⟩
      have e : rs.take (ps.map V.ref).length = rs := List.take_of_length_le (by rw [List.length_map, g.rows.1]; exact Nat.le_refl _)
      rw [e] at hv
      exact q H' ⟨dx, lo, rd, kvs, hx', hlo', hrd', hv⟩ fr
theorem scGN : FnScope ["self"] ["self"] (defScope sGNames) := ⟨rfl, rfl, rfl, by decide +kernel, rfl, by decide +kernel, by decide +kernel⟩
theorem ok_gnames {f fI CG : Addr} {fd fdI : FuncData} (F : Fun K "names" "Ground.names" sGNames f fd) (C : ClG K mg CG fI fdI) (G : KitG mg) : FnOk P w K mg base CX0 1 f fd ["self"] (spGNames CG) := by
  refine F.okJ scGN (fun vs H Q E h => ?_) (fun cdv A outer s H vs Q E hr h => ?_)
  · obtain ⟨a, rs, rfl, _⟩ := h
    rfl
  · obtain ⟨a, rs, rfl, ⟨dx, lo, rd, kvs, h1, h2, h3, h4⟩, q⟩ := h
    refine ⟨_, jss_one (js_ret (je_callTy call_list_of (by rfl) G.lst boot_list (ja_cons (je_fld (jv 0) rfl) ja_nil))), ?_⟩
    exact ⟨_, rfl, a, CG, dx, _, _, rfl, h1, C.cl, C.no, lkO _ _, lo, _, rfl, .inl (.of h2), q⟩
abbrev nGF : List Str := ["self", "name"]
theorem scGF : FnScope nGF nGF (defScope sGFrom) := ⟨rfl, rfl, rfl, by decide +kernel, rfl, by decide +kernel, by decide +kernel⟩
theorem ok_gfrom {f fI fN CG : Addr} {fd fdI fdN : FuncData} (F : Fun K "roads_from" "Ground.roads_from" sGFrom f fd) (C : ClG K mg CG fI fdI) (B : Blt mg) (G : KitG mg) (T : KitP K mg) (hN : Has K mg "is_name" sName ["thing"] fN fdN) : FnOk P w K mg base CX0 2 f fd nGF (spGFrom CG) := by
  have GN : FnOk P w K mg base CX0 1 fN fdN ["thing"] spNm := ok_name hN.fn B T
  refine F.okJ scGF (fun vs H Q E h => ?_) (fun cdv A outer s H vs Q E hr h => ?_)
  · obtain ⟨a, rs, r, rfl, _⟩ := h
    rfl
  · obtain ⟨a, rs, r, rfl, gr, hr', hn, q⟩ := h
    have hu := hu_of hr
    refine ⟨_, jss_cons (js_if (jw_or (jt_not (jt_val (je_f hN GN hr (by rfl) (ja_cons (jv 1) ja_nil)))) (jw_or1 (jt_cmp (jc_dnotin hu (jv 1) (je_fld (jv 0) rfl))))).pt jss_never jss_nil)
      (jss_one (js_ret (je_callTy call_list_of (by rfl) G.lst boot_list (ja_cons (je_dget hu (je_fld (jv 0) rfl) (jv 1) (fun _ _ => rfl)) ja_nil)))), ?_⟩
    refine ⟨_, rfl, r.1, rfl, hn, fun H1 s1 => ⟨_, rfl, iteF ?_⟩⟩
    obtain ⟨dx, lo, rd, kvs, h1, h2, h3, h4⟩ := gr.mono s1
    obtain ⟨qq, hv, hq⟩ := h4 r hr'
    have gz : DGet H1 rd (.str r.1) (some (.ref qq)) := by
      have := DGet.k (k := (Sum.inr r.1 : Key)) h3
      rw [hv] at this
      exact this
    refine ⟨_, rfl, _, rfl, a, CG, dx, _, _, rfl, h1, C.cl, C.nr, lkR _ _, rd, _, rfl, gz, _, rfl, iteF ?_⟩
    exact ⟨_, rfl, a, CG, dx, _, _, rfl, h1, C.cl, C.nr, lkR _ _, _, rfl, rd, _, rfl, gz, qq, _, rfl, .inl (.of hq), fun l hl => q H1 l s1 hl⟩
end
end Rh
set_option Elab.async false
set_option linter.all false
set_option maxRecDepth 100000
set_option maxHeartbeats 4000000
namespace Rh
open PySem L2 PyProof.Rows
abbrev Rws := List (Str × List Str)
def gOf (rs : Rws) (z : Str) : List Str := match rs.find? (fun r => decide (r.1 = z)) with
  | some r => rdOf rs r
  | none => []
theorem find_row : ∀ {rs : Rws} {r : Str × List Str}, (rs.map (·.1)).Nodup → r ∈ rs → rs.find? (fun q => decide (q.1 = r.1)) = some r
  | a :: rs, r, hn, h => by
    rw [List.map_cons, List.nodup_cons] at hn
    rcases List.mem_cons.mp h with rfl | h
    · simp [List.find?_cons]
    · have : ¬ a.1 = r.1 := fun e => hn.1 (e ▸ List.mem_map.mpr ⟨r, h, rfl⟩)
      simp only [List.find?_cons, decide_eq_false this]
      exact find_row hn.2 h
theorem gOf_row {rs : Rws} {r : Str × List Str} (hn : (rs.map (·.1)).Nodup) (h : r ∈ rs) : gOf rs r.1 = rdOf rs r := by
  unfold gOf
  rw [find_row hn h]
theorem rdOf_row {rs : Rws} {r : Str × List Str} {y : Str} (h : y ∈ rdOf rs r) : ∃ r' ∈ rs, r'.1 = y := by
  obtain ⟨r', h1, h2⟩ := List.mem_map.mp (List.mem_filter.mp h).1
  exact ⟨r', h1, h2⟩
theorem inV_iff {z : Str} {zs : List Str} : inV (.str z) (zs.map V.str) = true ↔ z ∈ zs := by
  refine ⟨fun h => ?_, inV_str⟩
  unfold inV at h
  obtain ⟨y, hy, e⟩ := List.any_eq_true.mp h
  obtain ⟨x, hx, rfl⟩ := List.mem_map.mp hy
  have e' : (x == z) = true := e
  rw [beq_iff_eq] at e'
  exact e' ▸ hx
theorem rdOf_iff {rs : Rws} (g : GoodRows rs) {r : Str × List Str} (h : r ∈ rs) {y : Str} : y ∈ rdOf rs r ↔ y ∈ r.2 := by
  unfold rdOf
  rw [List.mem_filter, inV_iff]
  exact ⟨fun z => z.2, fun z => ⟨g.to r h y z, z⟩⟩
theorem gOf_cl {rs : Rws} (hn : (rs.map (·.1)).Nodup) : ∀ z ∈ rs.map (·.1), ∀ y ∈ gOf rs z, y ∈ rs.map (·.1) := fun z hz y hy => by
  obtain ⟨r, hr, rfl⟩ := List.mem_map.mp hz
  rw [gOf_row hn hr] at hy
  obtain ⟨r', h1, rfl⟩ := rdOf_row hy
  exact List.mem_map.mpr ⟨r', h1, rfl⟩
theorem len_sub {α : Type} : ∀ {l m : List α}, l.Nodup → (∀ z ∈ l, z ∈ m) → l.length ≤ m.length
  | [], m, _, _ => Nat.zero_le _
  | a :: l, m, hn, h => by
    classical
    rw [List.nodup_cons] at hn
    have ha := h a List.mem_cons_self
    have := len_sub (m := m.erase a) hn.2 fun z hz => (List.mem_erase_of_ne (fun (e : z = a) => hn.1 (e ▸ hz))).mpr (h z (List.mem_cons_of_mem _ hz))
    rw [List.length_erase_of_mem ha] at this
    have := List.length_pos_of_mem ha
    rw [List.length_cons]
    omega
theorem merge_new : ∀ {more kvs : List (Key × V)}, (more.map (·.1)).Nodup → (∀ k ∈ more.map (·.1), ¬ k ∈ kvs.map (·.1)) → mergeK kvs more = kvs ++ more
  | [], kvs, _, _ => (List.append_nil _).symm
  | p :: more, kvs, hn, h => by
    rw [List.map_cons, List.nodup_cons] at hn
    have e : valV kvs p.1 = none := valV_out (h p.1 (by simp))
    show mergeK (putK kvs p.1 p.2) more = _
    rw [putK_new p.2 e, merge_new hn.2]
    · rw [List.append_assoc]
      rfl
    · intro k hk m
      rw [List.map_append] at m
      rcases List.mem_append.mp m with m | m
      · exact h k (by rw [List.map_cons]; exact List.mem_cons_of_mem _ hk) m
      · have : k = p.1 := by simpa using m
        subst this
        exact hn.1 hk
structure Mth (K : PySem.W.Frag) (C : Addr) (m qual : Str) (st : Stmt) (ps : List Str) (f : Addr) (fd : FuncData) : Prop where
  fn : Fun K m qual st f fd
  me : Meth K C m f
  bi : Binds K fd ps []
theorem je_m0 {X : Cx} {C f : Addr} {fd : FuncData} {m qual : Str} {st : Stmt} {ps : List Str} {k : Nat} {sp : Sp} {o : Expr} {ta : TE} {apos pos : Pos} {pl : Sem Bool} (h : Mth X.K C m qual st ps f fd) (c : Cls X.K C) (G : FnOk X.prog X.w X.K X.mg X.base CX0 k f fd ps sp) (hr : Room k X.A) (he : JE X o ta)
    (ht : eval (.Call (.Attribute o m apos) [] [] pos) X.env = (do
      let ov ← eval o X.env
      standAt apos.atName
      let (f, first) ← holding [ov] (getMethod ov m pl)
      callWith pos f first (backTo pos (starEach [] X.env)) (backToKw pos (keywordEach [] X.env))) := by rfl) :
    JE X (.Call (.Attribute o m apos) [] [] pos) (tMeth C m sp [] E0 ta tNil) := je_meth0 he c h.me G hr h.bi .nil pass0 ht
theorem je_m1 {X : Cx} {C f : Addr} {fd : FuncData} {m qual : Str} {st : Stmt} {ps : List Str} {k : Nat} {sp : Sp} {o e : Expr} {es : List Expr} {ta : TE} {t : TA} {apos pos : Pos} {pl : Sem Bool} (h : Mth X.K C m qual st ps f fd) (c : Cls X.K C) (G : FnOk X.prog X.w X.K X.mg X.base CX0 k f fd ps sp) (hr : Room k X.A) (he : JE X o ta) (ha : JA X (e :: es) t)
    (hst : starEach (e :: es) X.env = (false, eval e X.env) :: starEach es X.env := by rfl) (hpl : (backTo pos (starEach es X.env)).any (·.1) = false := by rfl)
    (ht : eval (.Call (.Attribute o m apos) (e :: es) [] pos) X.env = (do
      let ov ← eval o X.env
      standAt apos.atName
      let (f, first) ← holding [ov] (getMethod ov m pl)
      callWith pos f first (backTo pos (starEach (e :: es) X.env)) (backToKw pos (keywordEach [] X.env))) := by rfl) :
    JE X (.Call (.Attribute o m apos) (e :: es) [] pos) (tMeth C m sp [] E0 ta t) := je_meth he c h.me G hr h.bi .nil pass0 ha hst hpl ht
structure GM (K : PySem.W.Frag) (mg : Str → Option Value) (CG : Addr) : Prop where
  cls : ∃ f fd, ClG K mg CG f fd
  nm : ∃ f fd, Mth K CG "names" "Ground.names" sGNames ["self"] f fd
  fr : ∃ f fd, Mth K CG "roads_from" "Ground.roads_from" sGFrom ["self", "name"] f fd
  isn : ∃ f fd, Has K mg "is_name" sName ["thing"] f fd
theorem GrAt.ins {CG : Addr} {H : Hp} {a : Addr} {rs : Rws} (h : GrAt CG H a rs) : ∃ dx fs, H a = some (.ins CG dx fs) ∧ fs.lookup (Str.ofString "names") = none ∧ fs.lookup (Str.ofString "roads_from") = none := by
  obtain ⟨dx, lo, rd, kvs, h1, _⟩ := h
  refine ⟨dx, _, h1, ?_, ?_⟩
  · have e1 : ((Str.ofString "names") == (Str.ofString "order")) = false := by decide +kernel
    have e2 : ((Str.ofString "names") == (Str.ofString "roads")) = false := by decide +kernel
    simp only [List.lookup]
    rw [e1, e2]
  · have e1 : ((Str.ofString "roads_from") == (Str.ofString "order")) = false := by decide +kernel
    have e2 : ((Str.ofString "roads_from") == (Str.ofString "roads")) = false := by decide +kernel
    simp only [List.lookup]
    rw [e1, e2]
theorem strs_at {zs : List Str} {i : Nat} {y : V} (h : (zs.map V.str)[i]? = some y) : ∃ z, zs[i]? = some z ∧ z ∈ zs ∧ y = .str z := by
  rw [List.getElem?_map] at h
  cases e : zs[i]? with
  | none => rw [e] at h; cases h
  | some z => rw [e] at h; exact ⟨z, rfl, List.mem_of_getElem? e, (Option.some.inj h).symm⟩
theorem rd_len {rs : Rws} (r : Str × List Str) : (rdOf rs r).length ≤ rs.length := by
  have := List.length_filter_le (fun z => inV (.str z) (r.2.map V.str)) (rs.map (·.1))
  rwa [List.length_map] at this
theorem iteF_of {c : Bool} {A B : Prop} (hc : c = false) (h : B) : if c = true then A else B := by
  rw [hc]
  exact iteF h
theorem iteT_of {c : Bool} {A B : Prop} (hc : c = true) (h : A) : if c = true then A else B := by
  rw [if_pos hc]
  exact h
theorem valV_at {kvs : List (Key × V)} : ∀ {i : Nat} {k : Key} {v : V}, (kvs.map (·.1)).Nodup → kvs[i]? = some (k, v) → valV kvs k = some v := by
  induction kvs with
  | nil => intro i k v _ e; simp at e
  | cons p r ih =>
    intro i k v hn e
    rw [List.map_cons, List.nodup_cons] at hn
    cases i with
    | zero =>
      rw [List.getElem?_cons_zero] at e
      obtain rfl := Option.some.inj e
      exact valV_pos rfl
    | succ i =>
      rw [List.getElem?_cons_succ] at e
      have : ¬ p.1 = k := fun z => hn.1 (z ▸ List.mem_map.mpr ⟨_, List.mem_of_getElem? e, rfl⟩)
      rw [valV_neg this]
      exact ih hn.2 e
theorem rows_qs {H : Hp} : ∀ (ps : List Addr) (rs : Rws), RowsAt H ps rs → ∃ qs : List Addr, qs.length = rs.length ∧ ∀ (i : Nat) (p q : Addr) (r : Str × List Str), ps[i]? = some p → rs[i]? = some r → qs[i]? = some q → H p = some (.tup [.str r.1, .ref q]) ∧ H q = some (.tup (r.2.map V.str))
  | [], [], _ => ⟨[], rfl, fun i p q r e => by simp at e⟩
  | [], _ :: _, h => by cases h.1
  | _ :: _, [], h => by cases h.1
  | p :: ps, r :: rs, h => by
    obtain ⟨qs, l, k⟩ := rows_qs ps rs ⟨Nat.succ.inj h.1, fun i a b e1 e2 => h.2 (i + 1) a b (by simpa using e1) (by simpa using e2)⟩
    obtain ⟨q, a, b⟩ := h.2 0 p r rfl rfl
    refine ⟨q :: qs, by simp [l], fun i p' q' r' e1 e2 e3 => ?_⟩
    cases i with
    | zero => cases e1; cases e2; cases e3; exact ⟨a, b⟩
    | succ i => exact k i p' q' r' (by simpa using e1) (by simpa using e2) (by simpa using e3)
def kvOf (rs : Rws) (qs : List Addr) : List (Key × V) := List.zipWith (fun r q => ((Sum.inr r.1 : Key), V.ref q)) rs qs
theorem kvOf_keys : ∀ {rs : Rws} {qs : List Addr}, qs.length = rs.length → (kvOf rs qs).map (·.1) = (rs.map (·.1)).map Sum.inr
  | [], [], _ => rfl
  | [], _ :: _, h => by cases h
  | _ :: _, [], h => by cases h
  | r :: rs, q :: qs, h => by
    show Sum.inr r.1 :: (kvOf rs qs).map (·.1) = _
    rw [kvOf_keys (Nat.succ.inj h)]
    rfl
theorem kvOf_len {rs : Rws} {qs : List Addr} (h : qs.length = rs.length) : (kvOf rs qs).length = rs.length := by
  have := congrArg List.length (kvOf_keys h)
  simpa using this
theorem kvOf_at {rs : Rws} {qs : List Addr} (h : qs.length = rs.length) {i : Nat} {r : Str × List Str} (e : rs[i]? = some r) : ∃ q, qs[i]? = some q ∧ (kvOf rs qs)[i]? = some (Sum.inr r.1, .ref q) := by
  have hi : i < qs.length := by rw [h]; exact (List.getElem?_eq_some_iff.mp e).1
  refine ⟨qs[i], List.getElem?_eq_getElem hi, ?_⟩
  unfold kvOf
  rw [List.getElem?_zipWith, e, List.getElem?_eq_getElem hi]
theorem kvOf_inv {rs : Rws} {qs : List Addr} (h : qs.length = rs.length) {i : Nat} {kv : Key × V} (e : (kvOf rs qs)[i]? = some kv) : ∃ r q, rs[i]? = some r ∧ qs[i]? = some q ∧ kv = (Sum.inr r.1, .ref q) := by
  have hi : i < rs.length := by rw [← kvOf_len h]; exact (List.getElem?_eq_some_iff.mp e).1
  obtain ⟨q, e1, e2⟩ := kvOf_at h (List.getElem?_eq_getElem hi)
  rw [e2] at e
  exact ⟨_, q, List.getElem?_eq_getElem hi, e1, (Option.some.inj e).symm⟩
theorem gOf_iff {rs : Rws} (g : GoodRows rs) {r : Str × List Str} (h : r ∈ rs) {y : Str} : y ∈ gOf rs r.1 ↔ y ∈ r.2 := by
  rw [gOf_row g.nd h]
  exact rdOf_iff g h
theorem GoodRows.row {rs : Rws} (g : GoodRows rs) {r : Str × List Str} (h : r ∈ rs) {y : Str} (hy : y ∈ r.2) : ∃ r' ∈ rs, r'.1 = y := List.mem_map.mp (g.to r h y hy)
theorem le_sum : ∀ {l : List Nat} {x : Nat}, x ∈ l → x ≤ l.sum
  | a :: l, x, h => by
    rw [List.sum_cons]
    rcases List.mem_cons.mp h with e | h
    · omega
    · have := le_sum h
      omega
theorem GoodRows.two {rs : Rws} (g : GoodRows rs) {r : Str × List Str} (h : r ∈ rs) : r.2.length ≤ 40 := by
  refine Nat.le_trans ?_ g.few
  exact le_sum (List.mem_map.mpr ⟨r, h, rfl⟩)
theorem nil_in {σ : L2.St} {H : Hp} {Q : List V → Hp → Prop} (h : Q [] H) : tNil σ H Q := h
theorem same_none {H H' : Hp} {a : Addr} (s : Same H H') (h : H' a = none) : H a = none := by
  cases z : H a with
  | none => rfl
  | some u => rw [s _ _ z] at h; cases h
theorem name_codes {z : Str} (h : isName z = true) : (∀ c ∈ z.cps.toList, c ≤ 122) ∧ z.length ≤ 8 ∧ 1 ≤ z.length := by
  unfold isName at h
  simp only [Bool.and_eq_true, decide_eq_true_eq] at h
  refine ⟨fun c hc => ?_, h.1.2, h.1.1⟩
  have := List.all_eq_true.mp h.2 c hc
  unfold letter at this
  simp only [Bool.and_eq_true, decide_eq_true_eq] at this
  exact this.2
theorem name_ok {z : Str} (h : isName z = true) : PyData.strOk z = true := by
  unfold PyData.strOk
  rw [Array.all_eq_true_iff_forall_mem]
  intro c hc
  have := (name_codes h).1 c (by simpa using hc)
  exact decide_eq_true (by omega)
def dL (zs : List Str) : PyData := .list (zs.map PyData.str)
theorem DVs_strs {K : PySem.W.Frag} {H : Hp} : ∀ zs : List Str, DVs K H (zs.map V.str) (zs.map PyData.str)
  | [] => .nil
  | z :: zs => .cons (.str z) (DVs_strs zs)
theorem DV_L {K : PySem.W.Frag} {H : Hp} {p : Addr} {zs : List Str} (h : H p = some (.lst (zs.map V.str))) : DV K H (.ref p) (dL zs) := .lst (.of h) (DVs_strs zs)
theorem canS : ∀ {zs : List Str}, (∀ z ∈ zs, isName z = true) → PyData.canLayAll0 (zs.map PyData.str) = true
  | [], _ => rfl
  | z :: zs, h => by
    rw [List.map_cons, PyData.canLayAll0, canS fun y hy => h y (List.mem_cons_of_mem _ hy), Bool.and_true]
    exact name_ok (h z List.mem_cons_self)
theorem depS : ∀ zs : List Str, PyData.depthAll (zs.map PyData.str) = 0
  | [] => rfl
  | z :: zs => by
    rw [List.map_cons]
    simp only [PyData.depthAll, PyData.depth, depS zs]
    rfl
theorem shL {zs : List Str} (h : ∀ z ∈ zs, isName z = true) : PySem.SeqAt.shaped (dL zs) = true := by
  unfold PySem.SeqAt.shaped
  rw [Bool.and_eq_true]
  refine ⟨canS h, decide_eq_true ?_⟩
  unfold dL
  simp only [PyData.depth, depS zs]
  decide
end Rh
set_option Elab.async false
set_option linter.all false
set_option maxRecDepth 100000
set_option maxHeartbeats 4000000
namespace Rh
open PySem L2 PyProof.Rows MRing
abbrev sEL : Stmt := top 7
abbrev sSN : Stmt := top 8
abbrev sPR : Stmt := top 9
abbrev sRI : Stmt := top 10
def out (zs l : List Str) : List Str := l.filter fun y => !inV (.str y) (zs.map V.str)
theorem in_out {zs l : List Str} {y : Str} : y ∈ out zs l ↔ y ∈ l ∧ y ∉ zs := by
  unfold out
  rw [List.mem_filter, Bool.not_eq_true', ← Bool.not_eq_true, inV_iff]
theorem out_take {zs l : List Str} {i : Nat} {z : Str} (e : l[i]? = some z) : out zs (l.take (i + 1)) = out zs (l.take i) ++ if (!inV (.str z) (zs.map V.str)) = true then [z] else [] := by
  unfold out
  rw [List.take_add_one, e, List.filter_append]
  congr 1
  cases c : (!inV (.str z) (zs.map V.str))
  · simp [c]
  · simp [c]
theorem out_le (zs l : List Str) : (out zs l).length ≤ l.length := List.length_filter_le _ _
def spEL (CG : Addr) : Sp := fun vs H Q _ => ∃ (g S : Addr) (rs : Rws) (r : Str × List Str) (zs : List Str), vs = [.ref g, .ref S, .str r.1] ∧ GrAt CG H g rs ∧ r ∈ rs ∧ isName r.1 = true ∧ rs.length ≤ 14 ∧ H S = some (.lst (zs.map V.str)) ∧
  ∀ H' l, Same H H' → H l = none → H' l = some (.lst ((out zs (rdOf rs r)).map V.str)) → Q (.ref l) H'
def nxt (rs : Rws) (zs : List Str) : List Str := (out zs (rs.map (·.1))).filter fun z => (out zs (gOf rs z)).isEmpty
def spSN (CG : Addr) : Sp := fun vs H Q _ => ∃ (g S : Addr) (rs : Rws) (zs : List Str), vs = [.ref g, .ref S] ∧ GrAt CG H g rs ∧ GoodRows rs ∧ rs.length ≤ 14 ∧ H S = some (.lst (zs.map V.str)) ∧
  ∀ H' l, Same H H' → H l = none → H' l = some (.lst ((nxt rs zs).map V.str)) → Q (.ref l) H'
section
variable {P : Program} {w : World} {K : PySem.W.Frag} {mg : Str → Option Value} {base : Heap}
abbrev pEL : List Str := ["ground", "settled", "name"]
theorem scEL : FnScope pEL pEL (defScope sEL) := ⟨rfl, rfl, rfl, by decide +kernel, rfl, by decide +kernel, by decide +kernel⟩
theorem ok_el {f CG : Addr} {fd : FuncData} (F : Fun K "ends_left" "ends_left" sEL f fd) (B : Blt mg) (G : KitG mg) (T : KitP K mg) (M : GM K mg CG) : FnOk P w K mg base CX0 3 f fd pEL (spEL CG) := by
  obtain ⟨fC, fdC, C⟩ := M.cls
  obtain ⟨fR, fdR, hR⟩ := M.fr
  obtain ⟨fN, fdN, hN⟩ := M.isn
  have GR : FnOk P w K mg base CX0 2 fR fdR ["self", "name"] (spGFrom CG) := ok_gfrom hR.fn C B G T hN
  refine F.okJ scEL (fun vs H Q E h => ?_) (fun cdv A outer s H vs Q E hr h => ?_)
  · obtain ⟨g, S, rs, r, zs, rfl, _⟩ := h
    rfl
  · obtain ⟨g, S, rs, r, zs, rfl, gr, hr', hn, le14, hS, q⟩ := h
    refine ⟨_, jss_one (js_ret (je_lc (N' := ["end", "settled"]) (ix := [none, some 1]) (tt := tTest (tOp (rIn K true) (tVar 0) (tVar 1))) (te := tVar 0) rfl ⟨rfl, rfl, rfl, rfl, rfl⟩ (ji_list (je_m1 hR C.cl GR hr (jv 0) (ja_cons (jv 2) ja_nil))) (fun C s2 H2 fp pins =>
      ⟨jg_name (i := 0) (show (["end", "settled"] : List Str).Nodup by decide +kernel) rfl (Or.inl rfl), jts_one (jt_cmpR op_notIn_seq (jv 0) (jv 1) (by with_unfolding_all rfl)), jv 0⟩))), ?_⟩
    obtain ⟨dx, fs, hg, l1, l2⟩ := gr.ins
    refine ⟨_, rfl, g, dx, fs, rfl, hg, l2, _, rfl, g, rs, r, rfl, gr, hr', hn, fun H1 le s1 hle => ?_⟩
    have s2 : Same H (upd H1 le (.lst ((rdOf rs r).map V.str))) := s1.trans (same_upd hle)
    have hl2 : upd H1 le (.lst ((rdOf rs r).map V.str)) le = some (.lst ((rdOf rs r).map V.str)) := upd_same
    generalize upd H1 le (.lst ((rdOf rs r).map V.str)) = H2 at s2 hl2
    have hS2 := s2 _ _ hS
    refine ⟨le, rfl, ⟨_, .of hl2⟩, fun W hW => ?_⟩
    have lR := rd_len (rs := rs) r
    refine blk_list (K := K) (a := le) (xs := (rdOf rs r).map V.str) (fun j σ'' H'' => ∃ v0, σ'' = [v0, some (.ref S)] ∧ H'' = upd H2 W (.lst ((out zs ((rdOf rs r).take j)).map V.str))) ⟨none, rfl, rfl⟩ (fun j σ'' H'' _ ⟨_, _, e⟩ => e ▸ .of (upd_keep hl2 hW)) ?_ ?_
    · rintro j y σ'' H'' hy ⟨v0, rfl, rfl⟩
      obtain ⟨z, ez, hz, rfl⟩ := strs_at hy
      refine ⟨_, rfl, _, rfl, S, _, rfl, .inl (.of (upd_keep hS2 hW)), rfl, flat_strs _, _, rfl, ?_⟩
      rw [out_take ez]
      show if (!inV (.str z) (zs.map V.str)) = true then _ else _
      cases c : (!inV (.str z) (zs.map V.str)) with
      | true =>
        refine iteT ⟨_, rfl, _, upd_same, ?_, _, rfl, ?_⟩
        · rw [List.length_map]
          refine small1000 (Nat.le_trans (out_le _ _) ?_)
          rw [List.length_take]
          omega
        · rw [upd_upd, if_pos rfl, List.map_append]
          rfl
      | false =>
        refine iteF ⟨_, rfl, ?_⟩
        rw [if_neg Bool.false_ne_true, List.append_nil]
    · rintro σ'' H'' ⟨v0, rfl, rfl⟩
      rw [List.length_map, List.take_of_length_le (Nat.le_refl _)]
      exact q _ W (s2.trans (same_upd hW)) (same_none s2 hW) upd_same
abbrev nSN : List Str := ["ground", "settled", "left"]
abbrev pSN : List Str := ["ground", "settled"]
theorem scSN : FnScope nSN pSN (defScope sSN) := ⟨rfl, rfl, rfl, by decide +kernel, rfl, by decide +kernel, by decide +kernel⟩
theorem ok_sn {f fE CG : Addr} {fd fdE : FuncData} (F : Fun K "settled_next" "settled_next" sSN f fd) (B : Blt mg) (G : KitG mg) (T : KitP K mg) (M : GM K mg CG) (hE : Has K mg "ends_left" sEL pEL fE fdE) : FnOk P w K mg base CX0 4 f fd pSN (spSN CG) := by
  have GE : FnOk P w K mg base CX0 3 fE fdE pEL (spEL CG) := ok_el hE.fn B G T M
  obtain ⟨fC, fdC, C⟩ := M.cls
  obtain ⟨fM, fdM, hM⟩ := M.nm
  have GM : FnOk P w K mg base CX0 1 fM fdM ["self"] (spGNames CG) := ok_gnames hM.fn C G
  refine F.okJ scSN (fun vs H Q E h => ?_) (fun cdv A outer s H vs Q E hr h => ?_)
  · obtain ⟨g, S, rs, zs, rfl, _⟩ := h
    rfl
  · obtain ⟨g, S, rs, zs, rfl, gr, good, le14, hS, q⟩ := h
    have r1 : Room 1 _ := hr.mono (by decide)
    refine ⟨_, jss_cons (js_setLC (i := 2) (N' := ["name", "settled"]) (ix := [none, some 1]) (tt := tTest (tOp (rIn K true) (tVar 0) (tVar 1))) (te := tVar 0) scSN.nd rfl (Or.inl rfl) rfl ⟨rfl, rfl, rfl, rfl, rfl⟩ (ji_list (je_m0 hM C.cl GM r1 (jv 0))) (fun C s2 H2 fp pins =>
        ⟨jg_name (i := 0) (show (["name", "settled"] : List Str).Nodup by decide +kernel) rfl (Or.inl rfl), jts_one (jt_cmpR op_notIn_seq (jv 0) (jv 1) (by with_unfolding_all rfl)), jv 0⟩))
      (jss_one (js_ret (je_lc (N' := ["name", "ground", "settled"]) (ix := [none, some 0, some 1]) (tt := tTest (tOp rEq (tCB (fun xs H Q => ∃ p ys, xs = [.ref p] ∧ (SqL K H p ys ∨ SqT K H p ys) ∧ Q (.int ys.length) H) (tCons (tCall (spEL CG) [] E0 (tCons (tVar 1) (tCons (tVar 2) (tCons (tVar 0) tNil)))) tNil)) (tC (.int 0)))) (te := tVar 0) rfl ⟨rfl, rfl, rfl, rfl, rfl⟩ (ji_list (jv 2)) (fun C s2 H2 fp pins =>
        ⟨jg_name (i := 0) (show (["name", "ground", "settled"] : List Str).Nodup by decide +kernel) rfl (Or.inl rfl), jts_one (jt_cmpR op_eq (je_callB call_len_seq (by rfl) B.len boot_len (ja_cons (je_f hE GE hr (by rfl) (ja_cons (jv 1) (ja_cons (jv 2) (ja_cons (jv 0) ja_nil)))) ja_nil)) je_int (nomark _)), jv 0⟩)))), ?_⟩
    obtain ⟨dx, fs, hg, l1, l2⟩ := gr.ins
    refine ⟨_, rfl, g, dx, fs, rfl, hg, l1, g, rs, rfl, gr, fun ln hln => ⟨ln, rfl, ⟨_, .of upd_same⟩, fun W hW => ?_⟩⟩
    have s2 : Same H (upd H ln (.lst ((rs.map (·.1)).map V.str))) := same_upd hln
    have hl2 : upd H ln (.lst ((rs.map (·.1)).map V.str)) ln = some (.lst ((rs.map (·.1)).map V.str)) := upd_same
    generalize upd H ln (.lst ((rs.map (·.1)).map V.str)) = H2 at s2 hl2 hW
    have hS2 := s2 _ _ hS
    refine blk_list (K := K) (a := ln) (xs := (rs.map (·.1)).map V.str) (fun j σ'' H'' => ∃ v0, σ'' = [v0, some (.ref S)] ∧ H'' = upd H2 W (.lst ((out zs ((rs.map (·.1)).take j)).map V.str))) ⟨none, rfl, rfl⟩ (fun j σ'' H'' _ ⟨_, _, e⟩ => e ▸ .of (upd_keep hl2 hW)) ?_ ?_
    · rintro j y σ'' H'' hy ⟨v0, rfl, rfl⟩
      obtain ⟨z, ez, hz, rfl⟩ := strs_at hy
      refine ⟨_, rfl, _, rfl, S, _, rfl, .inl (.of (upd_keep hS2 hW)), rfl, flat_strs _, _, rfl, ?_⟩
      rw [out_take ez]
      show if (!inV (.str z) (zs.map V.str)) = true then _ else _
      cases c : (!inV (.str z) (zs.map V.str)) with
      | true =>
        refine iteT ⟨_, rfl, _, upd_same, ?_, _, rfl, ?_⟩
        · rw [List.length_map]
          refine small1000 (Nat.le_trans (out_le _ _) ?_)
          rw [List.length_take, List.length_map]
          omega
        · rw [upd_upd, if_pos rfl, List.map_append]
          rfl
      | false =>
        refine iteF ⟨_, rfl, ?_⟩
        rw [if_neg Bool.false_ne_true, List.append_nil]
    · rintro σ'' H'' ⟨v0, rfl, rfl⟩
      rw [List.length_map, List.take_of_length_le (Nat.le_refl _)]
      have s3 : Same H (upd H2 W (.lst ((out zs (rs.map (·.1))).map V.str))) := s2.trans (same_upd hW)
      have h3 : upd H2 W (.lst ((out zs (rs.map (·.1))).map V.str)) W = some (.lst ((out zs (rs.map (·.1))).map V.str)) := upd_same
      generalize upd H2 W (.lst ((out zs (rs.map (·.1))).map V.str)) = H3 at s3 h3
      refine ⟨_, rfl, W, rfl, ⟨_, .of h3⟩, fun V2 hV => ?_⟩
      have lo : (out zs (rs.map (·.1))).length ≤ 14 := by
        refine Nat.le_trans (out_le _ _) ?_
        rw [List.length_map]
        exact le14
      refine blk_list (K := K) (a := W) (xs := (out zs (rs.map (·.1))).map V.str) (fun j σ'' H'' => ∃ v0, σ'' = [v0, some (.ref g), some (.ref S)] ∧ Same H3 H'' ∧ H'' V2 = some (.lst ((((out zs (rs.map (·.1))).take j).filter fun z => (out zs (gOf rs z)).isEmpty).map V.str))) ⟨none, rfl, same_upd hV, upd_same⟩ (fun j σ'' H'' _ ⟨_, _, s, _⟩ => .of (s _ _ h3)) ?_ ?_
      · rintro j y σ'' H'' hy ⟨v0, rfl, s4, hV4⟩
        obtain ⟨z, ez, hz, rfl⟩ := strs_at hy
        obtain ⟨r, hr', rfl⟩ := List.mem_map.mp (in_out.mp hz).1
        have s5 := s3.trans s4
        refine ⟨_, rfl, _, rfl, _, rfl, g, S, rs, r, zs, rfl, gr.mono s5, hr', good.nm r hr', le14, s5 _ _ hS, fun H6 l6 s6 hl6 hl6' => ?_⟩
        refine ⟨l6, _, rfl, .inl (.of hl6'), rfl, _, rfl, ?_⟩
        have et : ((out zs (rs.map (·.1))).take (j + 1)).filter (fun z => (out zs (gOf rs z)).isEmpty) = ((out zs (rs.map (·.1))).take j).filter (fun z => (out zs (gOf rs z)).isEmpty) ++ if (out zs (gOf rs r.1)).isEmpty = true then [r.1] else [] := by
          rw [List.take_add_one, ez, List.filter_append]
          congr 1
          cases c : (out zs (gOf rs r.1)).isEmpty
          · simp [c]
          · simp [c]
        have ee : decide (V.int (((out zs (rdOf rs r)).map V.str).length : Nat) = V.int 0) = (out zs (gOf rs r.1)).isEmpty := by
          rw [gOf_row good.nd hr', List.length_map]
          cases out zs (rdOf rs r) with
          | nil => exact decide_eq_true rfl
          | cons a b =>
            refine decide_eq_false fun e => ?_
            have := V.int.inj e
            rw [List.length_cons] at this
            omega
        rw [et]
        show if decide (V.int (((out zs (rdOf rs r)).map V.str).length : Nat) = V.int 0) = true then _ else _
        rw [ee]
        have hV6 := s6 _ _ hV4
        cases c : (out zs (gOf rs r.1)).isEmpty with
        | true =>
          refine iteT ⟨_, rfl, _, hV6, ?_, _, rfl, Same.upd (s4.trans s6) hV, ?_⟩
          · rw [List.length_map]
            refine small1000 (Nat.le_trans (List.length_filter_le _ _) ?_)
            rw [List.length_take]
            omega
          · rw [upd_same, if_pos rfl, List.map_append]
            rfl
        | false =>
          refine iteF ⟨_, rfl, s4.trans s6, ?_⟩
          rw [if_neg Bool.false_ne_true, List.append_nil]
          exact hV6
      · rintro σ'' H'' ⟨v0, rfl, s4, hV4⟩
        rw [List.length_map, List.take_of_length_le (Nat.le_refl _)] at hV4
        exact q _ V2 (s3.trans s4) (same_none s3 hV) hV4
end
end Rh
set_option Elab.async false
set_option linter.all false
set_option maxRecDepth 100000
set_option maxHeartbeats 4000000
namespace Rh
open PySem L2 PyProof.Rows MRing
theorem in_nxt {rs : Rws} {zs : List Str} {z : Str} : z ∈ nxt rs zs ↔ z ∈ rs.map (·.1) ∧ z ∉ zs ∧ ∀ y ∈ gOf rs z, y ∈ zs := by
  unfold nxt
  rw [List.mem_filter, in_out, List.isEmpty_iff]
  constructor
  · rintro ⟨⟨a, b⟩, c⟩
    refine ⟨a, b, fun y hy => Classical.byContradiction fun n => ?_⟩
    have : y ∈ out zs (gOf rs z) := in_out.mpr ⟨hy, n⟩
    rw [c] at this
    cases this
  · rintro ⟨a, b, c⟩
    refine ⟨⟨a, b⟩, List.eq_nil_iff_forall_not_mem.mpr fun y hy => ?_⟩
    exact (in_out.mp hy).2 (c y (in_out.mp hy).1)
theorem nxt_nd {rs : Rws} (hn : (rs.map (·.1)).Nodup) (zs : List Str) : (nxt rs zs).Nodup := hn.sublist (List.filter_sublist.trans List.filter_sublist)
theorem nd_len {rs : Rws} {zs : List Str} (h : ∀ z ∈ zs, z ∈ rs.map (·.1)) (nd : zs.Nodup) : zs.length ≤ rs.length := by
  have := len_sub nd h
  rwa [List.length_map] at this
structure Setl (rs : Rws) (zs : List Str) : Prop where
  sub : ∀ z ∈ zs, z ∈ rs.map (·.1)
  nd : zs.Nodup
  far : ∀ T, Trap (gOf rs) T → ∀ y ∈ T, y ∉ zs
theorem Setl.nil (rs : Rws) : Setl rs [] := ⟨fun _ h => (nomatch h), List.nodup_nil, fun _ _ _ _ h => (nomatch h)⟩
theorem Setl.more {rs : Rws} (hn : (rs.map (·.1)).Nodup) {zs : List Str} (h : Setl rs zs) : Setl rs (zs ++ nxt rs zs) := by
  refine ⟨fun z hz => ?_, List.nodup_append.mpr ⟨h.nd, nxt_nd hn zs, fun a ha b hb e => ?_⟩, fun T t y hy m => ?_⟩
  · rcases List.mem_append.mp hz with hz | hz
    · exact h.sub z hz
    · exact (in_nxt.mp hz).1
  · exact (in_nxt.mp hb).2.1 (e ▸ ha)
  · rcases List.mem_append.mp m with m | m
    · exact h.far T t y hy m
    · exact trap_stays t (h.far T t) (in_nxt.mp m).2.2 hy
def spPR (CG : Addr) : Sp := fun vs H Q _ => ∃ (g : Addr) (rs : Rws), vs = [.ref g] ∧ GrAt CG H g rs ∧ GoodRows rs ∧ rs.length ≤ 14 ∧
  ∀ H' l zs, Same H H' → H l = none → H' l = some (.lst (zs.map V.str)) → Setl rs zs → nxt rs zs = [] → Q (.ref l) H'
section
variable {P : Program} {w : World} {K : PySem.W.Frag} {mg : Str → Option Value} {base : Heap}
abbrev nPR : List Str := ["ground", "settled", "more"]
theorem scPR : FnScope nPR ["ground"] (defScope sPR) := ⟨rfl, rfl, rfl, by decide +kernel, rfl, by decide +kernel, by decide +kernel⟩
theorem ok_pr {f fE fS CG : Addr} {fd fdE fdS : FuncData} (F : Fun K "places_to_no_ring" "places_to_no_ring" sPR f fd) (B : Blt mg) (G : KitG mg) (T : KitP K mg) (M : GM K mg CG) (hE : Has K mg "ends_left" sEL pEL fE fdE) (hS : Has K mg "settled_next" sSN pSN fS fdS) : FnOk P w K mg base CX0 5 f fd ["ground"] (spPR CG) := by
  have GS : FnOk P w K mg base CX0 4 fS fdS pSN (spSN CG) := ok_sn hS.fn B G T M hE
  refine F.okJ scPR (fun vs H Q E h => ?_) (fun cdv A outer s H vs Q E hr h => ?_)
  · obtain ⟨g, rs, rfl, _⟩ := h
    rfl
  · obtain ⟨g, rs, rfl, gr, good, le14, q⟩ := h
    refine ⟨_, jss_cons (js_set (i := 1) scPR.nd rfl (Or.inl rfl) (je_lst ja_nil))
      (jss_cons (js_set (i := 2) scPR.nd rfl (Or.inl rfl) (je_f hS GS hr (by rfl) (ja_cons (jv 0) (ja_cons (jv 1) ja_nil))))
      (jss_cons (js_while PassesOwn.never (jt_cmpR op_gt (je_callB call_len_seq (by rfl) B.len boot_len (ja_cons (jv 2) ja_nil)) je_int (nomark _))
        (jss_cons (js_expr (je_bm PySem.F.plainAttrs_list PySem.F.slot_list_extend PySem.F.type_list_extend mt_extend (jv 1) (ja_cons (jv 2) ja_nil)))
        (jss_one (js_set (i := 2) scPR.nd rfl (Or.inl rfl) (je_f hS GS hr (by rfl) (ja_cons (jv 0) (ja_cons (jv 1) ja_nil)))))))
      (jss_one (js_ret (jv 1))))), ?_⟩
    refine ⟨by show 0 ≤ sizeLine; decide, fun S0 hS0 => ?_⟩
    refine ⟨_, rfl, _, rfl, g, S0, rs, [], rfl, gr.mono (same_upd hS0), good, le14, upd_same, fun H1 M1 s1 hM1 hM1' => ?_⟩
    refine while_by (fun σ H' => ∃ (M0 : Addr) (zs : List Str), σ = [some (.ref g), some (.ref S0), some (.ref M0)] ∧ Same H H' ∧ H' S0 = some (.lst (zs.map V.str)) ∧ H' M0 = some (.lst ((nxt rs zs).map V.str)) ∧ Setl rs zs ∧ S0 ≠ M0)
      (fun σ H' => 15 - (match H' S0 with | some (.lst xs) => xs.length | _ => 0))
      ⟨M1, [], rfl, (same_upd hS0).trans s1, s1 _ _ upd_same, hM1', .nil rs, fun e => by rw [← e, upd_same] at hM1; cases hM1⟩ ?_ ?_
    · rintro σ H' ⟨M0, zs, rfl, sH, hZ, hMo, st, ne⟩
      have st2 := st.more good.nd
      have l2 := nd_len st2.sub st2.nd
      rw [List.length_append] at l2
      refine ⟨_, rfl, M0, _, rfl, .inl (.of hMo), _, _, rfl, rfl, _, rfl, ?_⟩
      rw [List.length_map]
      refine ite2 (fun c => ?_) (fun c => ?_)
      · have c' : (0 : Int) < (((nxt rs zs).length : Nat) : Int) := of_decide_eq_true c
        refine ⟨_, rfl, .inl ⟨rfl, _, .of hZ⟩, _, rfl, S0, M0, _, _, rfl, rfl, hZ, hMo, by rw [List.length_map, List.length_map]; exact Nat.le_of_lt (small1000 (by omega)), ?_⟩
        rw [← List.map_append]
        have sT : Same H (upd H' S0 (.lst ((zs ++ nxt rs zs).map V.str))) := Same.upd sH hS0
        refine ⟨_, rfl, _, rfl, g, S0, rs, zs ++ nxt rs zs, rfl, gr.mono sT, good, le14, upd_same, fun H2 M2 s2 hM2 hM2' => ?_⟩
        have z2 := s2 _ _ (upd_same (H := H') (a := S0) (o := HO.lst ((zs ++ nxt rs zs).map V.str)))
        refine ⟨⟨M2, zs ++ nxt rs zs, rfl, sT.trans s2, z2, hM2', st2, fun e => by rw [← e, upd_same] at hM2; cases hM2⟩, ?_⟩
        show 15 - (match H2 S0 with | some (.lst xs) => xs.length | _ => 0) < 15 - (match H' S0 with | some (.lst xs) => xs.length | _ => 0)
        rw [z2, hZ]
        show 15 - ((zs ++ nxt rs zs).map V.str).length < 15 - (zs.map V.str).length
        rw [List.length_map, List.length_map, List.length_append]
        omega
      · have c' : ¬ (0 : Int) < (((nxt rs zs).length : Nat) : Int) := fun z => c (decide_eq_true z)
        exact ⟨_, rfl, q H' S0 zs sH hS0 hZ st (List.eq_nil_of_length_eq_zero (by omega))⟩
    · rintro σ H' Q Q' f ⟨v, e, a, ys, e1, h1, i, j, e2, e3, b, e4, h2⟩
      exact ⟨v, e, a, ys, e1, h1, i, j, e2, e3, b, e4, f _ _ h2⟩
end
end Rh
set_option Elab.async false
set_option linter.all false
set_option maxRecDepth 100000
set_option maxHeartbeats 4000000
namespace Rh
open PySem L2 PyProof.Rows MRing
structure Wlk (rs : Rws) (zs ws : List Str) (z : Str) : Prop where
  nd : ws.Nodup
  chain : ∀ (i : Nat) (x y : Str), ws[i]? = some x → ws[i + 1]? = some y → y ∈ gOf rs x
  last : ∀ x, ws[ws.length - 1]? = some x → z ∈ gOf rs x
  sub : ∀ y ∈ ws, y ∈ rs.map (·.1)
  at_ : z ∈ out zs (rs.map (·.1))
theorem Wlk.go {rs : Rws} (hn : (rs.map (·.1)).Nodup) {zs ws : List Str} {z : Str} (h : Wlk rs zs ws z) (nw : z ∉ ws) (e : nxt rs zs = []) : ∃ y r, out zs (gOf rs z) = y :: r ∧ Wlk rs zs (ws ++ [z]) y := by
  have hz := in_out.mp h.at_
  cases c : out zs (gOf rs z) with
  | nil =>
    have : z ∈ nxt rs zs := in_nxt.mpr ⟨hz.1, hz.2, fun y hy => Classical.byContradiction fun n => by
      have : y ∈ out zs (gOf rs z) := in_out.mpr ⟨hy, n⟩
      rw [c] at this
      cases this⟩
    rw [e] at this
    cases this
  | cons y r =>
    have hy : y ∈ out zs (gOf rs z) := by rw [c]; exact List.mem_cons_self
    obtain ⟨y1, y2⟩ := in_out.mp hy
    refine ⟨y, r, rfl, ⟨?_, fun i x u ex eu => ?_, fun x ex => ?_, fun u hu => ?_, in_out.mpr ⟨gOf_cl hn z hz.1 y y1, y2⟩⟩⟩
    · refine List.nodup_append.mpr ⟨h.nd, List.pairwise_singleton _ _, fun a ha b hb e' => nw ?_⟩
      rw [← List.mem_singleton.mp hb, ← e']
      exact ha
    · have li : i < (ws ++ [z]).length := (List.getElem?_eq_some_iff.mp ex).1
      have lu : i + 1 < (ws ++ [z]).length := (List.getElem?_eq_some_iff.mp eu).1
      rw [List.length_append, List.length_singleton] at li lu
      rw [List.getElem?_append_left (by omega)] at ex
      by_cases d : i + 1 < ws.length
      · rw [List.getElem?_append_left d] at eu
        exact h.chain i x u ex eu
      · rw [List.getElem?_append_right (by omega)] at eu
        have : i + 1 - ws.length = 0 := by omega
        rw [this] at eu
        obtain rfl := Option.some.inj eu
        exact h.last x (by rw [← ex]; congr 1; omega)
    · rw [List.length_append, List.length_singleton, Nat.add_sub_cancel, List.getElem?_append_right (Nat.le_refl _), Nat.sub_self] at ex
      obtain rfl := Option.some.inj ex
      exact y1
    · rcases List.mem_append.mp hu with hu | hu
      · exact h.sub u hu
      · rw [List.mem_singleton.mp hu]
        exact hz.1
theorem first_at {ws : List Str} {z : Str} (nd : ws.Nodup) (h : z ∈ ws) : ∃ j : Nat, ws[j]? = some z ∧ ∀ i : Nat, i < j → ws[i]? ≠ some z := by
  obtain ⟨j, hj, e⟩ := List.getElem_of_mem h
  refine ⟨j, by rw [List.getElem?_eq_getElem hj, e], fun i hi e' => ?_⟩
  obtain ⟨hi', e''⟩ := List.getElem?_eq_some_iff.mp e'
  have := nd_inj nd (e''.trans e.symm)
  omega
theorem cut_drop (ws : List Str) {j : Nat} (h : j < ws.length) : L2.cutV (ws.map V.str) (some (j : Int)) none = (ws.drop j).map V.str := by
  unfold L2.cutV
  rw [HT.sIx_none, HT.sIx_nat, List.length_map, Nat.min_eq_left (Nat.le_of_lt h), List.map_drop]
  exact List.take_of_length_le (by rw [List.length_drop, List.length_map]; exact Nat.le_refl _)
def NoTrap (rs : Rws) : Prop := ∀ T, (∀ z ∈ T, z ∈ rs.map (·.1)) → Trap (gOf rs) T → T = []
def spRI (CG : Addr) : Sp := fun vs H Q _ => ∃ (g : Addr) (rs : Rws), vs = [.ref g] ∧ GrAt CG H g rs ∧ GoodRows rs ∧ rs.length ≤ 14 ∧
  ∀ H' v, Same H H' → ((v = .non ∧ NoTrap rs) ∨ ∃ l r, v = .ref l ∧ H l = none ∧ H' l = some (.lst (r.map V.str)) ∧ Ring (gOf rs) r ∧ ∀ z ∈ r, z ∈ rs.map (·.1)) → Q v H'
section
variable {P : Program} {w : World} {K : PySem.W.Frag} {mg : Str → Option Value} {base : Heap}
abbrev nRI : List Str := ["ground", "settled", "left", "walked", "name"]
theorem scRI : FnScope nRI ["ground"] (defScope sRI) := ⟨rfl, rfl, rfl, by decide +kernel, rfl, by decide +kernel, by decide +kernel⟩
theorem ok_ri {f fE fS fP CG : Addr} {fd fdE fdS fdP : FuncData} (F : Fun K "ring_in" "ring_in" sRI f fd) (B : Blt mg) (G : KitG mg) (T : KitP K mg) (M : GM K mg CG) (hE : Has K mg "ends_left" sEL pEL fE fdE) (hS : Has K mg "settled_next" sSN pSN fS fdS)
    (hP : Has K mg "places_to_no_ring" sPR ["ground"] fP fdP) : FnOk P w K mg base CX0 6 f fd ["ground"] (spRI CG) := by
  have GE : FnOk P w K mg base CX0 3 fE fdE pEL (spEL CG) := ok_el hE.fn B G T M
  have GP : FnOk P w K mg base CX0 5 fP fdP ["ground"] (spPR CG) := ok_pr hP.fn B G T M hE hS
  obtain ⟨fC, fdC, C⟩ := M.cls
  obtain ⟨fM, fdM, hM⟩ := M.nm
  have GM : FnOk P w K mg base CX0 1 fM fdM ["self"] (spGNames CG) := ok_gnames hM.fn C G
  refine F.okJ scRI (fun vs H Q E h => ?_) (fun cdv A outer s H vs Q E hr h => ?_)
  · obtain ⟨g, rs, rfl, _⟩ := h
    rfl
  · obtain ⟨g, rs, rfl, gr, good, le14, q⟩ := h
    have r1 : Room 1 _ := hr.mono (by decide)
    have r3 : Room 3 _ := hr.mono (by decide)
    refine ⟨_, jss_cons (js_set (i := 1) scRI.nd rfl (Or.inr rfl) (je_f hP GP hr (by rfl) (ja_cons (jv 0) ja_nil)))
      (jss_cons (js_setLC (i := 2) (N' := ["name", "settled"]) (ix := [none, some 1]) (tt := tTest (tOp (rIn K true) (tVar 0) (tVar 1))) (te := tVar 0) scRI.nd rfl (Or.inl rfl) rfl ⟨rfl, rfl, rfl, rfl, rfl⟩ (ji_list (je_m0 hM C.cl GM r1 (jv 0))) (fun C s2 H2 fp pins =>
        ⟨jg_name (i := 0) (show (["name", "settled"] : List Str).Nodup by decide +kernel) rfl (Or.inl rfl), jts_one (jt_cmpR op_notIn_seq (jv 0) (jv 1) (by with_unfolding_all rfl)), jv 0⟩))
      (jss_cons (js_if (jt_cmpR op_eq (je_callB call_len_seq (by rfl) B.len boot_len (ja_cons (jv 2) ja_nil)) je_int (nomark _)) (jss_one (js_ret je_non)) jss_nil)
      (jss_cons (js_set (i := 3) scRI.nd rfl (Or.inl rfl) (je_lst ja_nil))
      (jss_cons (js_set (i := 4) scRI.nd rfl (Or.inl rfl) (je_ix ix_list (jv 2) je_int (fun _ _ => rfl)))
      (jss_cons (js_while PassesOwn.never (jt_cmpR op_notIn_seq (jv 4) (jv 3) (by with_unfolding_all rfl))
        (jss_cons (js_expr (je_bm PySem.F.plainAttrs_list PySem.F.slot_list_append PySem.F.type_list_append mt_append (jv 3) (ja_cons (jv 4) ja_nil)))
        (jss_one (js_set (i := 4) scRI.nd rfl (Or.inl rfl) (je_ix ix_list (je_f hE GE r3 (by rfl) (ja_cons (jv 0) (ja_cons (jv 1) (ja_cons (jv 4) ja_nil)))) je_int (fun _ _ => rfl))))))
      (jss_one (js_ret (je_slice sl_list (jv 3) (jo_some (je_bm PySem.F.plainAttrs_list PySem.F.slot_list_index PySem.F.type_list_index mt_index (jv 3) (ja_cons (jv 4) ja_nil))) jo_none)))))))), ?_⟩
    refine ⟨_, rfl, g, rs, rfl, gr, good, le14, fun H1 S zs s1 hS hS1 st en => ?_⟩
    obtain ⟨dx, fs, hg, l1, l2⟩ := (gr.mono s1).ins
    refine ⟨_, rfl, g, dx, fs, rfl, hg, l1, g, rs, rfl, gr.mono s1, fun ln hln => ⟨ln, rfl, ⟨_, .of upd_same⟩, fun W hW => ?_⟩⟩
    have s2 : Same H (upd H1 ln (.lst ((rs.map (·.1)).map V.str))) := s1.trans (same_upd hln)
    have hl2 : upd H1 ln (.lst ((rs.map (·.1)).map V.str)) ln = some (.lst ((rs.map (·.1)).map V.str)) := upd_same
    have hS2 : upd H1 ln (.lst ((rs.map (·.1)).map V.str)) S = some (.lst (zs.map V.str)) := upd_keep hS1 hln
    generalize upd H1 ln (.lst ((rs.map (·.1)).map V.str)) = H2 at s2 hl2 hW hS2
    refine blk_list (K := K) (a := ln) (xs := (rs.map (·.1)).map V.str) (fun j σ'' H'' => ∃ v0, σ'' = [v0, some (.ref S)] ∧ H'' = upd H2 W (.lst ((out zs ((rs.map (·.1)).take j)).map V.str))) ⟨none, rfl, rfl⟩ (fun j σ'' H'' _ ⟨_, _, e⟩ => e ▸ .of (upd_keep hl2 hW)) ?_ ?_
    · rintro j y σ'' H'' hy ⟨v0, rfl, rfl⟩
      obtain ⟨z, ez, hz, rfl⟩ := strs_at hy
      refine ⟨_, rfl, _, rfl, S, _, rfl, .inl (.of (upd_keep hS2 hW)), rfl, flat_strs _, _, rfl, ?_⟩
      rw [out_take ez]
      show if (!inV (.str z) (zs.map V.str)) = true then _ else _
      cases c : (!inV (.str z) (zs.map V.str)) with
      | true =>
        refine iteT ⟨_, rfl, _, upd_same, ?_, _, rfl, ?_⟩
        · rw [List.length_map]
          refine small1000 (Nat.le_trans (out_le _ _) ?_)
          rw [List.length_take, List.length_map]
          omega
        · rw [upd_upd, if_pos rfl, List.map_append]
          rfl
      | false =>
        refine iteF ⟨_, rfl, ?_⟩
        rw [if_neg Bool.false_ne_true, List.append_nil]
    · rintro σ'' H'' ⟨v0, rfl, rfl⟩
      rw [List.length_map, List.take_of_length_le (Nat.le_refl _)]
      have s3 : Same H (upd H2 W (.lst ((out zs (rs.map (·.1))).map V.str))) := s2.trans (same_upd hW)
      have h3 : upd H2 W (.lst ((out zs (rs.map (·.1))).map V.str)) W = some (.lst ((out zs (rs.map (·.1))).map V.str)) := upd_same
      have hS3 : upd H2 W (.lst ((out zs (rs.map (·.1))).map V.str)) S = some (.lst (zs.map V.str)) := upd_keep hS2 hW
      generalize upd H2 W (.lst ((out zs (rs.map (·.1))).map V.str)) = H3 at s3 h3 hS3
      refine ⟨_, rfl, W, _, rfl, .inl (.of h3), rfl, _, rfl, ?_⟩
      rw [List.length_map]
      cases c : out zs (rs.map (·.1)) with
      | nil =>
        refine iteT_of (decide_eq_true rfl) (q _ _ s3 (.inl ⟨rfl, fun T0 sub t => List.eq_nil_iff_forall_not_mem.mpr fun y hy => ?_⟩))
        have : y ∈ out zs (rs.map (·.1)) := in_out.mpr ⟨sub y hy, st.far T0 t y hy⟩
        rw [c] at this
        cases this
      | cons z0 rest =>
        rw [c] at h3
        refine iteF_of (decide_eq_false fun e => by have := V.int.inj e; rw [List.length_cons] at this; omega) ?_
        refine ⟨by show 0 ≤ sizeLine; decide, fun D hD => ?_⟩
        refine ⟨_, rfl, W, _, 0, _, rfl, rfl, .of (upd_keep h3 hD), atI_nat (j := 0) (rfl : (V.str z0 :: rest.map V.str)[0]? = some (V.str z0)), ?_⟩
        have hD0 : H D = none := same_none s3 hD
        refine while_by (fun σ H' => ∃ (z : Str) (ws : List Str), σ = [some (.ref g), some (.ref S), some (.ref W), some (.ref D), some (.str z)] ∧ Same H3 H' ∧ H' D = some (.lst (ws.map V.str)) ∧ Wlk rs zs ws z)
          (fun σ H' => 15 - (match H' D with | some (.lst xs) => xs.length | _ => 0))
          ⟨z0, [], rfl, same_upd hD, upd_same, List.nodup_nil, fun i x y e => by simp at e, fun x e => by simp at e, fun y h => (nomatch h), by rw [c]; exact List.mem_cons_self⟩ ?_ ?_
        · rintro σ H' ⟨z, ws, rfl, sH, hDw, wk⟩
          have lw := nd_len wk.sub wk.nd
          refine ⟨_, rfl, _, rfl, D, _, rfl, .inl (.of hDw), rfl, flat_strs _, _, rfl, ?_⟩
          show if (!inV (.str z) (ws.map V.str)) = true then _ else _
          refine ite2 (fun cc => ?_) (fun cc => ?_)
          · have nw : z ∉ ws := fun m => by
              rw [inV_iff.mpr m] at cc
              cases cc
            obtain ⟨y, r, eo, wk2⟩ := wk.go good.nd nw en
            have lw2 := nd_len wk2.sub wk2.nd
            rw [List.length_append, List.length_singleton] at lw2
            refine ⟨_, rfl, .inl ⟨rfl, _, .of hDw⟩, _, rfl, D, _, _, rfl, rfl, hDw, by rw [List.length_map]; exact small1000 (by omega), ?_⟩
            have em : ws.map V.str ++ [V.str z] = (ws ++ [z]).map V.str := by rw [List.map_append]; rfl
            rw [em]
            have sT : Same H3 (upd H' D (.lst ((ws ++ [z]).map V.str))) := Same.upd sH hD
            obtain ⟨rz, hrz, erz⟩ := List.mem_map.mp (in_out.mp wk.at_).1
            subst erz
            have sA := s3.trans sT
            refine ⟨_, rfl, _, rfl, _, rfl, g, S, rs, rz, zs, rfl, gr.mono sA, hrz, good.nm rz hrz, le14, sT _ _ hS3, fun H5 l5 s5 hl5 hl5' => ?_⟩
            rw [← gOf_row good.nd hrz, eo] at hl5'
            refine ⟨l5, _, 0, _, rfl, rfl, .of hl5', atI_nat (j := 0) (rfl : (V.str y :: r.map V.str)[0]? = some (V.str y)), ?_⟩
            have d5 := s5 _ _ (upd_same (H := H') (a := D) (o := HO.lst ((ws ++ [rz.1]).map V.str)))
            refine ⟨⟨y, ws ++ [rz.1], rfl, sT.trans s5, d5, wk2⟩, ?_⟩
            show 15 - (match H5 D with | some (.lst xs) => xs.length | _ => 0) < 15 - (match H' D with | some (.lst xs) => xs.length | _ => 0)
            rw [d5, hDw]
            show 15 - ((ws ++ [rz.1]).map V.str).length < 15 - (ws.map V.str).length
            rw [List.length_map, List.length_map, List.length_append, List.length_singleton]
            omega
          · have iw : z ∈ ws := Classical.byContradiction fun n => cc (by
              cases e : inV (.str z) (ws.map V.str) with
              | false => rfl
              | true => exact absurd (inV_iff.mp e) n)
            obtain ⟨j, ej, fj⟩ := first_at wk.nd iw
            have jl := (List.getElem?_eq_some_iff.mp ej).1
            refine ⟨_, rfl, _, rfl, .inl ⟨rfl, _, .of hDw⟩, _, rfl, D, ws, z, j, rfl, rfl, .of hDw, ej, fj, _, rfl, D, _, rfl, .of hDw, fun p hp => ?_⟩
            rw [cut_drop ws jl]
            have sF := s3.trans sH
            refine q _ _ (sF.trans (same_upd hp)) (.inr ⟨p, ws.drop j, rfl, same_none sF hp, upd_same, ring_of wk.nd wk.chain wk.last ej, fun y hy => wk.sub y (List.mem_of_mem_drop hy)⟩)
        · rintro σ H' Q Q' f ⟨v, e, v2, e2, p, xs, e3, h1, h2, h3, b, e4, h4⟩
          exact ⟨v, e, v2, e2, p, xs, e3, h1, h2, h3, b, e4, f _ _ h4⟩
end
end Rh
set_option Elab.async false
set_option linter.all false
set_option maxRecDepth 100000
set_option maxHeartbeats 4000000
namespace Rh
open PySem L2 PyProof.Rows MRing
abbrev sNR : Stmt := top 33
theorem drop_keys {z : Str} : ∀ {kvs : List (Key × V)} {ls : List Str}, kvs.map (·.1) = ls.map Sum.inr → (dropK kvs (Sum.inr z)).map (·.1) = (ls.filter fun y => decide (y ≠ z)).map Sum.inr
  | [], [], _ => rfl
  | [], _ :: _, h => by cases h
  | _ :: _, [], h => by cases h
  | p :: kvs, y :: ls, h => by
    obtain ⟨e1, e2⟩ := List.cons.inj h
    have ih := drop_keys (z := z) e2
    unfold dropK at ih ⊢
    rw [List.filter_cons, List.filter_cons]
    have e1' : p.1 = Sum.inr y := e1
    by_cases c : y = z
    · rw [if_neg (by rw [e1', c]; simp), if_neg (by simp [c])]
      exact ih
    · rw [if_pos (by rw [e1']; simp [c]), if_pos (by simp [c]), List.map_cons, List.map_cons, ih, e1']
theorem drop_val {k j : Key} (h : j ≠ k) : ∀ kvs : List (Key × V), valV (dropK kvs k) j = valV kvs j
  | [] => rfl
  | p :: kvs => by
    have ih := drop_val h kvs
    unfold dropK at ih ⊢
    rw [List.filter_cons]
    by_cases c : p.1 = k
    · rw [if_neg (by simp [c]), ih, valV_neg (by rw [c]; exact Ne.symm h)]
    · rw [if_pos (by simp [c])]
      by_cases d : p.1 = j
      · rw [valV_pos d, valV_pos d]
      · rw [valV_neg d, valV_neg d]
        exact ih
theorem val_iff {kvs : List (Key × V)} {ls : List Str} (h : kvs.map (·.1) = ls.map Sum.inr) {y : Str} : (valV kvs (Sum.inr y : Key)).isSome = true ↔ y ∈ ls := by
  constructor
  · intro c
    obtain ⟨v, e⟩ := Option.isSome_iff_exists.mp c
    have := valV_in e
    rw [h] at this
    obtain ⟨x, hx, ex⟩ := List.mem_map.mp this
    exact Sum.inr.inj ex ▸ hx
  · intro c
    cases e : valV kvs (Sum.inr y : Key) with
    | some v => rfl
    | none =>
      exfalso
      have m : (Sum.inr y : Key) ∈ kvs.map (·.1) := by rw [h]; exact List.mem_map.mpr ⟨y, c, rfl⟩
      obtain ⟨x, hx, ex⟩ := List.mem_map.mp m
      have a : (kvs.any fun kv => decide (kv.1 = (Sum.inr y : Key))) = true := List.any_eq_true.mpr ⟨x, hx, decide_eq_true ex⟩
      rw [valV_any, e] at a
      cases a
theorem dict_all {K : PySem.W.Frag} {H : Hp} {l : Addr} {ps : List Addr} {rs : Rws} (g : GoodAt H l ps rs) {Q : VK}
    (q : ∀ dd kvs, H dd = none → kvs.map (·.1) = (rs.map (·.1)).map Sum.inr → (∀ r ∈ rs, ∃ t, valV kvs (Sum.inr r.1 : Key) = some (.ref t) ∧ H t = some (.tup (r.2.map V.str))) → Q (.ref dd) (upd H dd (.dK kvs))) : rDictP K [.ref l] H Q := by
  obtain ⟨qs, lq, hqs⟩ := rows_qs ps rs g.rows
  have le := g.le
  refine ⟨l, ps, kvOf rs qs, rfl, .of g.at_, by rw [kvOf_len lq, g.rows.1], fun i a kv e1 e2 => ?_, by rw [kvOf_len lq]; omega, fun dd hdd => ?_⟩
  · obtain ⟨r', q', f1, f2, rfl⟩ := kvOf_inv lq e2
    exact .of (hqs i a q' r' e1 f1 f2).1
  have nk : ((kvOf rs qs).map (·.1)).Nodup := by
    rw [kvOf_keys lq]
    exact nodup_map g.good.nd fun a _ b _ e => Sum.inr.inj e
  rw [merge_new nk (fun k _ m => by simp at m), List.nil_append]
  refine q dd _ hdd (kvOf_keys lq) fun r hr => ?_
  obtain ⟨i0, hi0⟩ := List.getElem?_of_mem hr
  obtain ⟨q0, eq0, ekv⟩ := kvOf_at lq hi0
  have hi0' := (List.getElem?_eq_some_iff.mp hi0).1
  exact ⟨q0, valV_at nk ekv, (hqs i0 _ q0 r (List.getElem?_eq_getElem (by rw [g.rows.1]; exact hi0')) hi0 eq0).2⟩
structure Lf (rs : Rws) (H : Hp) (d : Addr) (ls : List Str) : Prop where
  at_ : ∃ kvs, H d = some (.dK kvs) ∧ kvs.map (·.1) = ls.map Sum.inr ∧ ∀ r ∈ rs, r.1 ∈ ls → ∃ t, valV kvs (Sum.inr r.1 : Key) = some (.ref t) ∧ H t = some (.tup (r.2.map V.str))
  sub : ∀ z ∈ ls, z ∈ rs.map (·.1)
  nd : ls.Nodup
  far : ∀ T, (∀ z ∈ T, z ∈ rs.map (·.1)) → Trap (gOf rs) T → ∀ y ∈ T, y ∈ ls
theorem Lf.mono {rs : Rws} {H H' : Hp} {d : Addr} {ls : List Str} (h : Lf rs H d ls) (s : Same H H') : Lf rs H' d ls := ⟨let ⟨kvs, a, b, c⟩ := h.at_; ⟨kvs, s _ _ a, b, fun r hr hl => let ⟨t, u, v⟩ := c r hr hl; ⟨t, u, s _ _ v⟩⟩, h.sub, h.nd, h.far⟩
theorem Lf.pop {rs : Rws} {H : Hp} {d : Addr} {ls : List Str} {z : Str} {kvs : List (Key × V)} (h : Lf rs H d ls) (e : H d = some (.dK kvs)) (no : ∀ y ∈ gOf rs z, y ∉ ls) : Lf rs (upd H d (.dK (dropK kvs (Sum.inr z)))) d (ls.filter fun y => decide (y ≠ z)) := by
  obtain ⟨kv', a, b, c⟩ := h.at_
  rw [e] at a
  cases a
  refine ⟨⟨_, upd_same, drop_keys b, fun r hr hl => ?_⟩, fun y hy => h.sub y (List.mem_filter.mp hy).1, h.nd.sublist List.filter_sublist, fun T sub t y hy => ?_⟩
  · obtain ⟨m1, m2⟩ := List.mem_filter.mp hl
    obtain ⟨t, u, v⟩ := c r hr m1
    refine ⟨t, ?_, ?_⟩
    · rw [drop_val (fun q => of_decide_eq_true m2 (Sum.inr.inj q))]
      exact u
    · rw [upd_ne (fun q => by rw [q, e] at v; cases v)]
      exact v
  · refine List.mem_filter.mpr ⟨h.far T sub t y hy, decide_eq_true fun q => ?_⟩
    subst q
    obtain ⟨x, hx, hT⟩ := t y hy
    exact no x hx (h.far T sub t x hT)
theorem fil_lt {ls : List Str} {z : Str} (h : z ∈ ls) : (ls.filter fun y => decide (y ≠ z)).length < ls.length := by
  rcases Nat.lt_or_ge (ls.filter fun y => decide (y ≠ z)).length ls.length with c | c
  · exact c
  · have e := (List.filter_sublist (p := fun y => decide (y ≠ z)) (l := ls)).eq_of_length_le c
    rw [← e] at h
    have := (List.mem_filter.mp h).2
    simp at this
def spNR : Sp := fun vs H Q _ => ∃ (l : Addr) (ps : List Addr) (rs : Rws), vs = [.ref l] ∧ GoodAt H l ps rs ∧ ∀ H' b, Same H H' → (b = true ↔ NoTrap rs) → Q (.bl b) H'
theorem eqv_nilL (zs : List Str) : PyData.eqv (dL zs) (dL []) = zs.isEmpty := by cases zs <;> rfl
section
variable {P : Program} {w : World} {K : PySem.W.Frag} {mg : Str → Option Value} {base : Heap}
abbrev nNR : List Str := ["_law_rows_here", "_law_left", "_law_more", "_law_name"]
theorem scNR : FnScope nNR ["_law_rows_here"] (defScope sNR) := ⟨rfl, rfl, rfl, by decide +kernel, rfl, by decide +kernel, by decide +kernel⟩
theorem ok_nr {f : Addr} {fd : FuncData} (F : Fun K "_law_no_ring" "_law_no_ring" sNR f fd) (G : KitG mg) (hdi : mg "dict" = none) : FnOk P w K mg base CX0 1 f fd ["_law_rows_here"] spNR := by
  refine F.okJ scNR (fun vs H Q E h => ?_) (fun cdv A outer s H vs Q E hr h => ?_)
  · obtain ⟨l, ps, rs, rfl, _⟩ := h
    rfl
  · obtain ⟨l, ps, rs, rfl, g, q⟩ := h
    have hu := hu_of hr
    refine ⟨_, jss_cons (js_set (i := 1) scNR.nd rfl (Or.inr rfl) (je_callTy (call_dictP rfl) (by rfl) hdi boot_dict (ja_cons (jv 0) ja_nil)))
      (jss_cons (js_set (i := 2) scNR.nd rfl (Or.inl rfl) je_bl)
      (jss_cons (js_while PassesOwn.never (jt_val (jv 2))
        (jss_cons (js_set (i := 2) scNR.nd rfl (Or.inl rfl) je_bl)
        (jss_one (js_for PassesOwn.never rfl (ji_list (je_callTy (call_listD rfl) (by rfl) G.lst boot_list (ja_cons (jv 1) ja_nil))) (jg_name (i := 3) scNR.nd rfl (Or.inl rfl))
          (jss_one (js_if (jt_cmpR (op_eqV hr.units) (je_lc (N' := ["_law_other", "_law_left"]) (ix := [none, some 1]) (tt := tB (tDIn (tVar 0) (tVar 1))) (te := tVar 0) rfl ⟨rfl, rfl, rfl, rfl, rfl⟩ (ji_tup (je_dget hu (jv 1) (jv 3) (fun _ _ => rfl))) (fun C s2 H2 fp pins =>
              ⟨jg_name (i := 0) (show (["_law_other", "_law_left"] : List Str).Nodup by decide +kernel) rfl (Or.inl rfl), jts_one (jt_cmp (jc_din hu (jv 0) (jv 1))), jv 0⟩)) (je_lst ja_nil) (nomark _))
            (jss_cons (js_expr (je_dpop1 (jv 1) (jv 3) ⟨rfl, rfl, rfl, rfl⟩)) (jss_one (js_set (i := 2) scNR.nd rfl (Or.inl rfl) je_bl))) jss_nil))))))
      (jss_one (js_ret (je_cmpR (op_eqDN (Nat.lt_of_succ_lt hu)) (jv 1) je_dnewK (nomark _)))))), ?_⟩
    refine ⟨_, rfl, nil_in ?_⟩
    refine dict_all g fun d kv0 hd ek0 hv0 => ?_
    have le := g.le
    have L0 : Lf rs (upd H d (.dK kv0)) d (rs.map (·.1)) := ⟨⟨kv0, upd_same, ek0, fun r hr' _ => let ⟨t, a, b⟩ := hv0 r hr'; ⟨t, a, upd_keep b hd⟩⟩, fun z h => h, g.good.nd, fun T sub _ y hy => sub y hy⟩
    refine while_by (fun σ H' => ∃ (v3 : Option V) (b : Bool) (ls : List Str), σ = [some (.ref l), some (.ref d), some (.bl b), v3] ∧ Same H H' ∧ Lf rs H' d ls ∧ (b = false → ∀ z ∈ ls, ∃ y ∈ gOf rs z, y ∈ ls))
      (fun σ H' => 2 * (match H' d with | some (.dK kvs) => kvs.length | _ => 0) + (match σ with | [_, _, some (.bl true), _] => 1 | _ => 0))
      ⟨none, true, _, rfl, same_upd hd, L0, fun e => by cases e⟩ ?_ ?_
    · rintro σ H' ⟨v3, b, ls0, rfl, sH, lf0, stb⟩
      refine ⟨_, rfl, b, rfl, ?_⟩
      obtain ⟨k0, a0, b0, c0⟩ := lf0.at_
      have len0 : k0.length = ls0.length := by simpa using congrArg List.length b0
      cases b with
      | true =>
        refine iteT ⟨_, rfl, d, k0, ls0, rfl, a0, b0, fun lz hlz => ⟨lz, rfl, ⟨_, .of upd_same⟩, ?_⟩⟩
        have nz : lz ≠ d := fun e => by rw [e, a0] at hlz; cases hlz
        refine for_list (K := K) (a := lz) (xs := ls0.map V.str) (fun j σ' G => ∃ (v3 : Option V) (b : Bool) (ls : List Str), σ' = [some (.ref l), some (.ref d), some (.bl b), v3] ∧ Same H G ∧ G lz = some (.lst (ls0.map V.str)) ∧ Lf rs G d ls ∧ (∀ z ∈ ls0.drop j, z ∈ ls) ∧
            (b = false → ls = ls0 ∧ ∀ z ∈ ls0.take j, ∃ y ∈ gOf rs z, y ∈ ls0) ∧ (b = true → ls.length < ls0.length))
          ⟨_, false, ls0, rfl, sH.trans (same_upd hlz), upd_same, lf0.mono (same_upd hlz), fun z h => h, fun _ => ⟨rfl, fun z h => (nomatch h)⟩, fun e => by cases e⟩ (fun j σ' G _ ⟨_, _, _, _, _, h, _⟩ => .of h) ?_ ?_
        · rintro j y σ' G hy ⟨v3, b, ls, rfl, sG, hz, lf, dr, f0, f1⟩
          obtain ⟨z, ez, hzz, rfl⟩ := strs_at hy
          have jl := (List.getElem?_eq_some_iff.mp ez).1
          have zin : z ∈ ls := dr z (by
            rw [List.mem_iff_getElem?]
            exact ⟨0, by rw [List.getElem?_drop]; exact ez⟩)
          obtain ⟨rz, hrz, erz⟩ := List.mem_map.mp (lf.sub z zin)
          subst erz
          obtain ⟨kvs, a, bk, c⟩ := lf.at_
          obtain ⟨t, ev, ht⟩ := c rz hrz zin
          have gz := DGet.k (k := (Sum.inr rz.1 : Key)) a
          rw [ev] at gz
          have l40 := g.good.two hrz
          refine ⟨_, rfl, _, rfl, d, _, rfl, gz, t, rfl, ⟨_, .of ht⟩, fun W hW => ?_⟩
          refine blk_tup (K := K) (a := t) (xs := rz.2.map V.str) (fun i σ'' H'' => ∃ v0, σ'' = [v0, some (.ref d)] ∧ H'' = upd G W (.lst (((rz.2.take i).filter fun y => (valV kvs (Sum.inr y : Key)).isSome).map V.str)))
            ⟨none, rfl, rfl⟩ (fun i σ'' H'' _ ⟨_, _, e⟩ => e ▸ .of (upd_keep ht hW)) ?_ ?_
          · rintro i y σ'' H'' hy ⟨v0, rfl, rfl⟩
            obtain ⟨x, ex, hx, rfl⟩ := strs_at hy
            have gx := DGet.k (k := (Sum.inr x : Key)) (upd_keep (o' := HO.lst (((rz.2.take i).filter fun y => (valV kvs (Sum.inr y : Key)).isSome).map V.str)) a hW)
            refine ⟨_, rfl, _, rfl, d, _, rfl, gx, _, rfl, ?_⟩
            cases cc : (valV kvs (Sum.inr x : Key)).isSome with
            | true =>
              refine iteT ⟨_, rfl, _, upd_same, ?_, _, rfl, ?_⟩
              · rw [List.length_map]
                refine small1000 (Nat.le_trans (List.length_filter_le _ _) ?_)
                rw [List.length_take]
                omega
              · rw [upd_upd, List.take_add_one, ex, List.filter_append, List.map_append]
                simp [cc]
            | false =>
              refine iteF ⟨_, rfl, ?_⟩
              rw [List.take_add_one, ex, List.filter_append]
              simp [cc]
          · rintro σ'' H'' ⟨v0, rfl, rfl⟩
            rw [List.length_map, List.take_of_length_le (Nat.le_refl _)]
            generalize hfl : rz.2.filter (fun y => (valV kvs (Sum.inr y : Key)).isSome) = fl
            have ifl : ∀ y, y ∈ fl ↔ y ∈ gOf rs rz.1 ∧ y ∈ ls := fun y => by
              rw [← hfl, List.mem_filter, val_iff bk, gOf_iff g.good hrz]
            have nfl : ∀ y ∈ fl, isName y = true := fun y hy => g.good.names rz hrz y ((gOf_iff g.good hrz).mp ((ifl y).mp hy).1)
            refine ⟨by show 0 ≤ sizeLine; decide, fun l0 hl0 => ?_⟩
            have sW : Same G (upd G W (.lst (fl.map V.str))) := same_upd hW
            have sE : Same G (upd (upd G W (.lst (fl.map V.str))) l0 (.lst [])) := sW.trans (same_upd hl0)
            refine ⟨dL fl, dL [], DV_L (upd_keep upd_same hl0), DV_L upd_same, shL nfl, shL (fun y h => (nomatch h)), _, rfl, ?_⟩
            rw [eqv_nilL]
            generalize upd (upd G W (.lst (fl.map V.str))) l0 (.lst []) = G2 at sE
            have dr' : ∀ x ∈ ls0.drop (j + 1), x ∈ ls ∧ x ≠ rz.1 := fun x hx => by
              obtain ⟨i, ei⟩ := List.getElem?_of_mem hx
              rw [List.getElem?_drop] at ei
              refine ⟨dr x ?_, fun e => ?_⟩
              · rw [List.mem_iff_getElem?]
                exact ⟨i + 1, by rw [List.getElem?_drop, ← ei]; congr 1; omega⟩
              · obtain ⟨h1, h2⟩ := List.getElem?_eq_some_iff.mp ei
                obtain ⟨h3, h4⟩ := List.getElem?_eq_some_iff.mp ez
                have := nd_inj lf0.nd (h2.trans (e.trans h4.symm))
                omega
            cases fl with
            | nil =>
              refine iteT_of rfl ⟨_, rfl, d, rfl, .inl ⟨_, .inl (sE _ _ a)⟩, _, rfl, kvs, Sum.inr rz.1, _, sE _ _ a, rfl, ev, ?_⟩
              refine ⟨_, true, ls.filter (fun y => decide (y ≠ rz.1)), rfl, Same.upd (sG.trans sE) hd, ?_, (lf.mono sE).pop (sE _ _ a) (fun y hy hl => by have := (ifl y).mpr ⟨hy, hl⟩; cases this), fun x hx => List.mem_filter.mpr ⟨(dr' x hx).1, decide_eq_true (dr' x hx).2⟩, (fun e => by cases e), fun _ => ?_⟩
              · rw [upd_ne nz]
                exact sE _ _ hz
              · have := fil_lt zin
                cases b with
                | false => rw [(f0 rfl).1] at this ⊢; exact this
                | true => have := f1 rfl; omega
            | cons x0 r0 =>
              refine iteF_of rfl ⟨_, b, ls, rfl, sG.trans sE, sE _ _ hz, lf.mono sE, fun x hx => (dr' x hx).1, fun e => ⟨(f0 e).1, fun x hx => ?_⟩, f1⟩
              rw [List.take_add_one, ez] at hx
              rcases List.mem_append.mp hx with hx | hx
              · exact (f0 e).2 x hx
              · have : x = rz.1 := by simpa using hx
                subst this
                obtain ⟨m1, m2⟩ := (ifl x0).mp List.mem_cons_self
                exact ⟨x0, m1, (f0 e).1 ▸ m2⟩
        · rintro σ' G ⟨v3, b, ls, rfl, sG, hz, lf, dr, f0, f1⟩
          rw [List.length_map, List.take_of_length_le (Nat.le_refl _)] at f0
          refine ⟨⟨v3, b, ls, rfl, sG, lf, fun e => by rw [(f0 e).1]; exact (f0 e).2⟩, ?_⟩
          obtain ⟨k1, a1, b1, _⟩ := lf.at_
          have len1 : k1.length = ls.length := by simpa using congrArg List.length b1
          show 2 * (match G d with | some (.dK kvs) => kvs.length | _ => 0) + (match [some (V.ref l), some (.ref d), some (.bl b), v3] with | [_, _, some (.bl true), _] => 1 | _ => 0) < 2 * (match H' d with | some (.dK kvs) => kvs.length | _ => 0) + 1
          rw [a1, a0]
          cases b with
          | true =>
            have := f1 rfl
            show 2 * k1.length + 1 < 2 * k0.length + 1
            omega
          | false =>
            have e := (f0 rfl).1
            show 2 * k1.length + 0 < 2 * k0.length + 1
            rw [len1, len0, e]
            omega
      | false =>
        refine iteF ⟨_, rfl, fun d2 hd2 => ⟨d, d2, k0, rfl, rfl, upd_keep a0 hd2, upd_same, ?_⟩⟩
        refine q _ _ (sH.trans (same_upd hd2)) ⟨fun e T sub t => List.eq_nil_iff_forall_not_mem.mpr fun y hy => ?_, fun nt => ?_⟩
        · have : ls0 = [] := List.eq_nil_of_length_eq_zero (by rw [← len0, List.isEmpty_iff.mp e]; rfl)
          have := lf0.far T sub t y hy
          simp [‹ls0 = []›] at this
        · have : ls0 = [] := nt ls0 lf0.sub (stb rfl)
          rw [List.isEmpty_iff]
          exact List.eq_nil_of_length_eq_zero (by rw [len0, this]; rfl)
    · rintro σ H' Q Q' f ⟨v, e, b, e2, h⟩
      exact ⟨v, e, b, e2, f _ _ h⟩
end
end Rh
set_option Elab.async false
set_option linter.all false
set_option maxRecDepth 100000
set_option maxHeartbeats 4000000
namespace Rh
open PySem L2 PyProof.Rows MRing
abbrev sRG : Stmt := top 36
def spRG : Sp := fun vs H Q _ => ∃ (l lr : Addr) (ps : List Addr) (rs : Rws) (r : List Str), vs = [.ref l, .ref lr] ∧ GoodAt H l ps rs ∧ H lr = some (.lst (r.map V.str)) ∧ Ring (gOf rs) r ∧ (∀ z ∈ r, z ∈ rs.map (·.1)) ∧ ∀ H', Same H H' → Q (.bl true) H'
theorem cut_head (ws : List Str) (j : Nat) : L2.cutV (ws.map V.str) none (some (j : Int)) = (ws.take j).map V.str := by
  unfold L2.cutV
  rw [HT.sIx_none, HT.sIx_nat, List.length_map, List.map_take]
  show ((ws.map V.str).drop 0).take (min j ws.length - 0) = _
  rw [List.drop_zero, Nat.sub_zero]
  rcases Nat.le_total j ws.length with h | h
  · rw [Nat.min_eq_left h]
  · rw [Nat.min_eq_right h, List.take_of_length_le (by rw [List.length_map]; exact Nat.le_refl _), List.take_of_length_le (by rw [List.length_map]; exact h)]
theorem cut_from (ws : List Str) (j : Nat) (h : j ≤ ws.length) : L2.cutV (ws.map V.str) (some (j : Int)) none = (ws.drop j).map V.str := by
  unfold L2.cutV
  rw [HT.sIx_none, HT.sIx_nat, List.length_map, Nat.min_eq_left h, List.map_drop]
  exact List.take_of_length_le (by rw [List.length_drop, List.length_map]; exact Nat.le_refl _)
section
variable {P : Program} {w : World} {K : PySem.W.Frag} {mg : Str → Option Value} {base : Heap}
abbrev nRG : List Str := ["_law_rows_here", "_law_ring", "_law_leads_here", "_law_name", "_law_other"]
abbrev pRG : List Str := ["_law_rows_here", "_law_ring"]
theorem scRG : FnScope nRG pRG (defScope sRG) := ⟨rfl, rfl, rfl, by decide +kernel, rfl, by decide +kernel, by decide +kernel⟩
theorem ok_rg {f : Addr} {fd : FuncData} (F : Fun K "_law_ring_good" "_law_ring_good" sRG f fd) (B : Blt mg) (G : KitG mg) (T : KitP K mg) (hdi : mg "dict" = none) (hzi : mg "zip" = none) : FnOk P w K mg base CX0 1 f fd pRG spRG := by
  refine F.okJ scRG (fun vs H Q E h => ?_) (fun cdv A outer s H vs Q E hr h => ?_)
  · obtain ⟨l, lr, ps, rs, r, rfl, _⟩ := h
    rfl
  · obtain ⟨l, lr, ps, rs, r, rfl, g, hlr, ring, sub, q⟩ := h
    have hu := hu_of hr
    refine ⟨_, jss_cons (js_set (i := 2) scRG.nd rfl (Or.inl rfl) (je_callTy (call_dictP rfl) (by rfl) hdi boot_dict (ja_cons (jv 0) ja_nil)))
      (jss_cons (js_if (jw_or (jt_not (jt_val (je_callB call_isinst (by rfl) T.isi boot_isinstance (ja_cons (jv 1) (ja_cons (je_bltn (v := .ty "list") (by rfl) G.lst boot_list rfl) ja_nil)))))
          (jw_or (jt_cmpR (op_eqV hr.units) (jv 1) (je_lst ja_nil) (nomark _))
          (jw_or1 (jt_cmpR op_ne (je_lenset rfl (by rfl) B.len (by rfl) G.set (jv 1)) (je_callB call_len_seq (by rfl) B.len boot_len (ja_cons (jv 1) ja_nil)) (nomark _))))).pt (jss_one (js_ret je_bl)) jss_nil)
      (jss_cons (js_for PassesOwn.never rfl (ji_zip (by rfl) hzi (ja_cons (jv 1) (ja_cons (je_op op_addL (je_slice sl_list (jv 1) (jo_some je_int) jo_none) (je_slice sl_list (jv 1) jo_none (jo_some je_int))) ja_nil)))
          (jg_tup rfl (jgs_cons (jg_name (i := 3) scRG.nd rfl (Or.inl rfl)) (jgs_cons (jg_name (i := 4) scRG.nd rfl (Or.inl rfl)) jgs_nil)))
        (jss_one (js_if (jw_or (jt_cmp (jc_dnotin hu (jv 3) (jv 2))) (jw_or1 (jt_cmpR op_notIn_seq (jv 4) (je_dget hu (jv 2) (jv 3) (fun _ _ => rfl)) (by with_unfolding_all rfl)))).pt (jss_one (js_ret je_bl)) jss_nil)))
      (jss_one (js_ret je_bl)))), ?_⟩
    refine ⟨_, rfl, nil_in ?_⟩
    refine dict_all g fun d kv0 hd ek0 hv0 => ?_
    have s1 : Same H (upd H d (.dK kv0)) := same_upd hd
    have hd1 : upd H d (.dK kv0) d = some (.dK kv0) := upd_same
    have hv1 : ∀ x ∈ rs, ∃ t, valV kv0 (Sum.inr x.1 : Key) = some (.ref t) ∧ upd H d (.dK kv0) t = some (.tup (x.2.map V.str)) := fun x hx => let ⟨t, a, b⟩ := hv0 x hx; ⟨t, a, s1 _ _ b⟩
    generalize upd H d (.dK kv0) = H1 at s1 hd1 hv1
    have hlr1 := s1 _ _ hlr
    have le := g.le
    have lr14 : r.length ≤ 14 := by
      have := len_sub ring.nd sub
      rw [List.length_map] at this
      omega
    have nmr : ∀ z ∈ r, isName z = true := fun z hz => by
      obtain ⟨x, hx, rfl⟩ := List.mem_map.mp (sub z hz)
      exact g.good.nm x hx
    refine ⟨_, rfl, _, _, _, _, rfl, rfl, .lst hlr1, T.kll, _, rfl, iteF ?_⟩
    refine ⟨_, rfl, by show 0 ≤ sizeLine; decide, fun l0 hl0 => ?_⟩
    refine ⟨dL r, dL [], DV_L (upd_keep hlr1 hl0), DV_L upd_same, shL nmr, shL (fun y h => (nomatch h)), _, rfl, ?_⟩
    rw [eqv_nilL]
    have ne : r.isEmpty = false := by
      cases r with
      | nil => exact absurd rfl ring.ne
      | cons a b => rfl
    refine iteF_of ne ?_
    have s2 : Same H1 (upd H1 l0 (.lst [])) := same_upd hl0
    generalize upd H1 l0 (.lst []) = H2 at s2
    have hlr2 := s2 _ _ hlr1
    refine ⟨_, rfl, lr, r, rfl, .of hlr2, by omega, ring.nd, _, rfl, lr, _, rfl, .inl (.of hlr2), rfl, ?_⟩
    rw [List.length_map]
    refine ⟨_, rfl, iteF_of (by simp) ?_⟩
    refine ⟨_, rfl, _, rfl, _, rfl, lr, _, rfl, .of hlr2, fun p1 hp1 => ?_⟩
    have s3 := same_upd (o := HO.lst (L2.cutV (r.map V.str) (some 1) none)) hp1
    refine ⟨_, rfl, _, rfl, lr, _, rfl, .of (s3 _ _ hlr2), fun p2 hp2 => ?_⟩
    have s4 := same_upd (o := HO.lst (L2.cutV (r.map V.str) none (some 1))) hp2
    refine ⟨p1, p2, _, _, rfl, rfl, .of (s4 _ _ upd_same), .of upd_same, ?_, fun lz hlz => ?_⟩
    · have c1 := cut_from r 1 (by cases r with | nil => exact absurd rfl ring.ne | cons a b => exact Nat.succ_le_succ (Nat.zero_le _))
      have c2 := cut_head r 1
      have e1 : L2.cutV (r.map V.str) (some 1) none = (r.drop 1).map V.str := c1
      have e2 : L2.cutV (r.map V.str) none (some 1) = (r.take 1).map V.str := c2
      rw [e1, e2, List.length_map, List.length_map, List.length_drop, List.length_take]
      exact Nat.le_of_lt (small1000 (by omega))
    have c1 := cut_from r 1 (by cases r with | nil => exact absurd rfl ring.ne | cons a b => exact Nat.succ_le_succ (Nat.zero_le _))
    have c2 := cut_head r 1
    have e1 : L2.cutV (r.map V.str) (some 1) none = (r.drop 1).map V.str := c1
    have e2 : L2.cutV (r.map V.str) none (some 1) = (r.take 1).map V.str := c2
    rw [e1] at s3 s4 hp2 hlz
    rw [e2] at s4 hlz
    rw [e1, e2, ← List.map_append]
    have s24 := s3.trans s4
    generalize upd (upd H2 p1 (.lst ((r.drop 1).map V.str))) p2 (.lst ((r.take 1).map V.str)) = H4 at s4 s24 hlz
    have lt : (r.drop 1 ++ r.take 1).length = r.length := by
      rw [List.length_append, List.length_drop, List.length_take]
      omega
    refine ⟨lr, lz, rfl, ⟨_, .of (upd_keep (s24 _ _ hlr2) hlz)⟩, ⟨_, .of upd_same⟩, ?_⟩
    have hd4 := s24 _ _ (s2 _ _ hd1)
    refine for_zip (K := K) (a := lr) (b := lz) (xs := r.map V.str) (ys := (r.drop 1 ++ r.take 1).map V.str) (by rw [List.length_map, List.length_map, lt]) (fun i σ H' => ∃ v3 v4, σ = [some (.ref l), some (.ref lr), some (.ref d), v3, v4] ∧ Same H4 H' ∧ H' lz = some (.lst ((r.drop 1 ++ r.take 1).map V.str)))
      ⟨none, none, rfl, same_upd hlz, upd_same⟩ (fun i σ H' _ ⟨_, _, _, a, b⟩ => ⟨.of (a _ _ (s24 _ _ hlr2)), .of b⟩) ?_ ?_
    · rintro i x y σ H' p hx hy hp ⟨v3, v4, rfl, sH, hz⟩
      obtain ⟨z, ez, hz1, rfl⟩ := strs_at hx
      obtain ⟨z2, ez2, hz2, rfl⟩ := strs_at hy
      have go := ring.go i z z2 ez ez2
      obtain ⟨rz, hrz, erz⟩ := List.mem_map.mp (sub z hz1)
      subst erz
      obtain ⟨t, ev, ht⟩ := hv1 rz hrz
      have sp := sH.trans (same_upd (o := HO.tup [V.str rz.1, V.str z2]) hp)
      have gz := DGet.k (k := (Sum.inr rz.1 : Key)) (sp _ _ hd4)
      rw [ev] at gz
      refine ⟨p, _, rfl, .of upd_same, rfl, _, _, rfl, _, _, rfl, rfl, ?_⟩
      refine ⟨_, rfl, _, rfl, d, _, rfl, gz, _, rfl, iteF ?_⟩
      refine ⟨_, rfl, _, rfl, _, rfl, d, _, rfl, gz, t, _, rfl, .inr (.of (sp _ _ (s24 _ _ (s2 _ _ ht)))), rfl, flat_strs _, _, rfl, ?_⟩
      have iv : inV (.str z2) (rz.2.map V.str) = true := inV_iff.mpr ((gOf_iff g.good hrz).mp go)
      refine iteF_of (by show (!inV (.str z2) (rz.2.map V.str)) = false; rw [iv]; rfl) ?_
      exact ⟨_, _, rfl, sp, upd_keep hz hp⟩
    · rintro σ H' ⟨v3, v4, rfl, sH, hz⟩
      exact q _ ((s1.trans s2).trans (s24.trans sH))
end
end Rh
set_option Elab.async false
set_option linter.all false
set_option maxRecDepth 100000
set_option maxHeartbeats 4000000
namespace Rh
open PySem L2 PyProof.Rows MRing
theorem perm_pop {α : Type} : ∀ {ws : List α} {k : Nat} {x : α}, ws[k]? = some x → (x :: ws.eraseIdx k).Perm ws
  | [], _, _, h => by simp at h
  | a :: ws, 0, x, h => by
    obtain rfl := Option.some.inj h
    exact List.Perm.refl _
  | a :: ws, k + 1, x, h => by
    have ih := perm_pop (ws := ws) (k := k) (x := x) (by simpa using h)
    exact (List.Perm.swap a x _).trans (ih.cons a)
theorem GoodRows.perm {rs us : Rws} (g : GoodRows rs) (p : us.Perm rs) : GoodRows us := by
  have m : ∀ r, r ∈ us ↔ r ∈ rs := fun r => p.mem_iff
  refine ⟨fun r hr => g.nm r ((m r).mp hr), (p.map (·.1)).nodup_iff.mpr g.nd, fun r hr z hz => (p.map (·.1)).mem_iff.mpr (g.to r ((m r).mp hr) z hz), fun r hr => g.rd r ((m r).mp hr), ?_⟩
  rw [(p.map fun r => r.2.length).sum_nat]
  exact g.few
theorem erase_at {α : Type} : ∀ (l : List α) (k i : Nat), (l.eraseIdx k)[i]? = if i < k then l[i]? else l[i + 1]?
  | [], k, i => by simp
  | a :: l, 0, i => by simp
  | a :: l, k + 1, 0 => by simp
  | a :: l, k + 1, i + 1 => by
    rw [List.eraseIdx_cons_succ, List.getElem?_cons_succ, List.getElem?_cons_succ, List.getElem?_cons_succ, erase_at l k i]
    by_cases h : i < k
    · rw [if_pos h, if_pos (by omega)]
    · rw [if_neg h, if_neg (by omega)]
theorem map_erase {α β : Type} {f : α → β} : ∀ (l : List α) (k : Nat), (l.map f).eraseIdx k = (l.eraseIdx k).map f
  | [], _ => rfl
  | _ :: _, 0 => rfl
  | a :: l, k + 1 => by
    show f a :: (l.map f).eraseIdx k = f a :: (l.eraseIdx k).map f
    rw [map_erase l k]
theorem RowsAt.erase {H : Hp} {ps : List Addr} {rs : Rws} (h : RowsAt H ps rs) {k : Nat} (hk : k < rs.length) : RowsAt H (ps.eraseIdx k) (rs.eraseIdx k) := by
  refine ⟨by rw [List.length_eraseIdx, List.length_eraseIdx, h.1], fun i p r e1 e2 => ?_⟩
  rw [erase_at] at e1 e2
  split at e1
  · exact h.2 i p r e1 (by rwa [if_pos ‹_›] at e2)
  · exact h.2 (i + 1) p r e1 (by rwa [if_neg ‹_›] at e2)
theorem RowsAt.fr {H H' : Hp} {ps : List Addr} {rs : Rws} {d : Addr} {kvs : List (Key × V)} (h : RowsAt H ps rs) (hd : H d = some (.dK kvs)) (f : Fr H d H') : RowsAt H' ps rs := ⟨h.1, fun i p r e1 e2 => by
  obtain ⟨q, a, b⟩ := h.2 i p r e1 e2
  exact ⟨q, f _ _ a (fun e => by rw [e, hd] at a; cases a), f _ _ b (fun e => by rw [e, hd] at b; cases b)⟩⟩
theorem shuffle {K : PySem.W.Frag} {σ : L2.St} {f : Nat} {d lr lf : Addr} {sd n t : Int} {H0 H : Hp} {D : Ends} {rs0 : Rws} {qs : List Addr} {tt : TE}
    (h3 : σ[3]? = some (some (.ref lr))) (hf : σ[f]? = some (some (.ref lf)))
    (ht : ∀ (H : Hp) (xs : List V) (n t : Int) (Q : VK), H d = some (.dK (src n sd t)) → H lr = some (.lst xs) → 0 < xs.length → xs.length ≤ 14 → (∀ r n' t', 0 ≤ r → r < (xs.length : Int) → Q (.int r) (upd H d (.dK (src n' sd t')))) → tt σ H Q)
    (hd : H d = some (.dK (src n sd t))) (hr : H lr = some (.lst (qs.map V.ref))) (rat : RowsAt H qs rs0) (hfl : H lf = some (.lst [])) (fr : Fr H0 d H) (lr0 : H0 lr = none) (lf0 : H0 lf = none) (nrf : lr ≠ lf) (le : rs0.length ≤ 14)
    (q : ∀ H' ps rs n' t', H' lf = some (.lst (ps.map V.ref)) → RowsAt H' ps rs → rs.Perm rs0 → H' d = some (.dK (src n' sd t')) → Fr H0 d H' → D.nx σ H') :
    tWhile (tTest (tOp (rNeLN K) (tVar 3) (tLst tNil))) (tDrop (tBM K "list" rAppend (tVar f) (tCons (tBM K "list" rPopAt (tVar 3) (tCons tt tNil)) tNil))) D σ H := by
  refine while_by (fun σ' H' => σ' = σ ∧ ∃ (n' t' : Int) (as bs : List Addr) (ws us : Rws), H' d = some (.dK (src n' sd t')) ∧ H' lr = some (.lst (as.map V.ref)) ∧ RowsAt H' as ws ∧ H' lf = some (.lst (bs.map V.ref)) ∧ RowsAt H' bs us ∧ (us ++ ws).Perm rs0 ∧ Fr H0 d H')
    (fun _ H' => match H' lr with | some (.lst xs) => xs.length | _ => 0) ⟨rfl, n, t, qs, [], rs0, [], hd, hr, rat, hfl, ⟨rfl, fun i p r e => (nomatch e)⟩, List.Perm.refl _, fr⟩ ?_ ?_
  · rintro σ' H1 ⟨rfl, n1, t1, as, bs, ws, us, hd1, hr1, wat, hf1, uat, pm, fr1⟩
    have ln := pm.length_eq
    rw [List.length_append] at ln
    refine ⟨_, h3, by show 0 ≤ sizeLine; decide, fun l0 hl0 => ?_⟩
    have s1 : Same H1 (upd H1 l0 (.lst [])) := same_upd hl0
    refine ⟨lr, l0, _, rfl, rfl, .of (s1 _ _ hr1), .of upd_same, _, rfl, ?_⟩
    have hl00 : H0 l0 = none := fr1.fresh hd1 hl0
    have fr2 : Fr H0 d (upd H1 l0 (.lst [])) := fr1.own hl00
    generalize upd H1 l0 (.lst []) = H2 at s1 fr2
    have hr2 := s1 _ _ hr1
    have hf2 := s1 _ _ hf1
    have hd2 := s1 _ _ hd1
    cases ws with
    | nil =>
      have as0 : as = [] := List.eq_nil_of_length_eq_zero wat.1
      subst as0
      refine iteF ?_
      rw [List.append_nil] at pm
      exact q H2 bs us n1 t1 hf2 (uat.mono s1) pm hd2 fr2
    | cons w0 wr =>
      have la : as.length = (w0 :: wr).length := wat.1
      have lp : 0 < (w0 :: wr).length := Nat.succ_pos _
      refine iteT_of ?_ ?_
      · cases as with
        | nil => rw [← la] at lp; exact absurd lp (Nat.lt_irrefl _)
        | cons a b => rfl
      generalize w0 :: wr = ws at *
      refine ⟨_, hf, .inl ⟨rfl, _, .of hf2⟩, _, h3, .inl ⟨rfl, _, .of hr2⟩, ?_⟩
      refine ht H2 (as.map V.ref) n1 t1 _ hd2 hr2 (by rw [List.length_map, la]; exact lp) (by rw [List.length_map, la]; omega) fun r n3 t3 r0 r1 => ?_
      rw [List.length_map] at r1
      obtain ⟨k, rfl⟩ : ∃ k : Nat, r = (k : Int) := ⟨r.toNat, by omega⟩
      have hk : k < ws.length := by omega
      have hka : k < as.length := by omega
      have ea : (as.map V.ref)[k]? = some (V.ref as[k]) := by rw [List.getElem?_map, List.getElem?_eq_getElem hka]; rfl
      have nrd : lr ≠ d := fun e => by rw [e, hd2] at hr2; cases hr2
      have nfd : lf ≠ d := fun e => by rw [e, hd2] at hf2; cases hf2
      have fr3 : Fr H2 d (upd H2 d (.dK (src n3 sd t3))) := Fr.refl.at_d
      have hr3 := fr3 _ _ hr2 nrd
      have hf3 := fr3 _ _ hf2 nfd
      have w3 := (wat.mono s1).fr hd2 fr3
      have u3 := (uat.mono s1).fr hd2 fr3
      have fr03 : Fr H0 d (upd H2 d (.dK (src n3 sd t3))) := fr2.at_d
      have hd3 : upd H2 d (.dK (src n3 sd t3)) d = some (.dK (src n3 sd t3)) := upd_same
      generalize upd H2 d (.dK (src n3 sd t3)) = H3 at hr3 hf3 w3 u3 fr03 hd3 ⊢
      refine ⟨lr, _, (k : Int), k, _, rfl, rfl, hr3, by omega, by omega, ?_, ea, ?_⟩
      · rw [List.length_map]
        have := seqIndex_of (k := (k : Int)) (n := as.length) (by omega) (by omega)
        rw [this]
        rfl
      have eer : (as.map V.ref).eraseIdx k = (as.eraseIdx k).map V.ref := map_erase _ _
      rw [eer]
      have w4 : RowsAt (upd H3 lr (.lst ((as.eraseIdx k).map V.ref))) (as.eraseIdx k) (ws.eraseIdx k) := (w3.erase hk).upd_lst hr3
      have u4 : RowsAt (upd H3 lr (.lst ((as.eraseIdx k).map V.ref))) bs us := u3.upd_lst hr3
      have hf4 : upd H3 lr (.lst ((as.eraseIdx k).map V.ref)) lf = some (.lst (bs.map V.ref)) := by rw [upd_ne (Ne.symm nrf)]; exact hf3
      have hd4 : upd H3 lr (.lst ((as.eraseIdx k).map V.ref)) d = some (.dK (src n3 sd t3)) := by rw [upd_ne (Ne.symm nrd)]; exact hd3
      have hr4 : upd H3 lr (.lst ((as.eraseIdx k).map V.ref)) lr = some (.lst ((as.eraseIdx k).map V.ref)) := upd_same
      have fr4 : Fr H0 d (upd H3 lr (.lst ((as.eraseIdx k).map V.ref))) := fr03.own lr0
      obtain ⟨q0, a0, b0⟩ := w3.2 k _ _ (List.getElem?_eq_getElem hka) (List.getElem?_eq_getElem hk)
      have a4 : upd H3 lr (.lst ((as.eraseIdx k).map V.ref)) as[k] = some (.tup [.str ws[k].1, .ref q0]) := by rw [upd_ne (fun e => by rw [e, hr3] at a0; cases a0)]; exact a0
      have b4 : upd H3 lr (.lst ((as.eraseIdx k).map V.ref)) q0 = some (.tup (ws[k].2.map V.str)) := by rw [upd_ne (fun e => by rw [e, hr3] at b0; cases b0)]; exact b0
      generalize upd H3 lr (.lst ((as.eraseIdx k).map V.ref)) = H4 at w4 u4 hf4 hd4 hr4 fr4 a4 b4 ⊢
      have lb := uat.1
      refine ⟨lf, _, _, rfl, rfl, hf4, ?_, ⟨rfl, n3, t3, as.eraseIdx k, bs ++ [as[k]], ws.eraseIdx k, us ++ [ws[k]], ?_, ?_, w4.upd_lst hf4, ?_, (u4.snoc a4 b4).upd_lst hf4, ?_, fr4.own lf0⟩, ?_⟩
      · rw [List.length_map]
        exact small1000 (by omega)
      · rw [upd_ne (Ne.symm nfd)]; exact hd4
      · rw [upd_ne nrf]; exact hr4
      · rw [List.map_append]; exact upd_same
      · rw [List.append_assoc]
        exact ((perm_pop (List.getElem?_eq_getElem hk)).append_left us).trans pm
      · show (match upd H4 lf (.lst (bs.map V.ref ++ [V.ref as[k]])) lr with | some (.lst xs) => xs.length | _ => 0) < (match H1 lr with | some (.lst xs) => xs.length | _ => 0)
        rw [upd_ne nrf, hr4, hr1]
        show ((as.eraseIdx k).map V.ref).length < (as.map V.ref).length
        rw [List.length_map, List.length_map, List.length_eraseIdx, if_pos hka]
        omega
  · rintro σ' H' Q Q' g ⟨v, e, z, h⟩
    exact ⟨v, e, z, fun p hp => let ⟨a, b, xs, e1, e2, s1, s2, k, e3, w⟩ := h p hp; ⟨a, b, xs, e1, e2, s1, s2, k, e3, g _ _ w⟩⟩
end Rh
set_option Elab.async false
set_option linter.all false
set_option maxRecDepth 100000
set_option maxHeartbeats 4000000
namespace Rh
open PySem L2 PyProof.Rows MRing
abbrev sOR : Stmt := top 34
def spMk : Sp := fun vs H Q _ => ∃ (d : Addr) (n s t : Int), vs = [.ref d] ∧ H d = some (.dK (src n s t)) ∧
  ∀ (l : Addr) (ps : List Addr) (rs : Rws) (n' t' : Int) (H' : Hp), H l = none → H' l = some (.lst (ps.map V.ref)) → RowsAt H' ps rs → GoodRows rs → 0 < rs.length → rs.length ≤ 14 → H' d = some (.dK (src n' s t')) → Fr H d H' → Q (.ref l) H'
theorem good_of {rs : Rws} {zs : List Str} (e : rs.map (·.1) = zs) (hn : ∀ z ∈ zs, isName z = true) (nd : zs.Nodup) (h : ∀ r ∈ rs, r.2.Nodup ∧ ∀ z ∈ r.2, z ∈ zs) (few : (rs.map fun r => r.2.length).sum ≤ 40) : GoodRows rs :=
  ⟨fun r hr => hn _ (by rw [← e]; exact List.mem_map.mpr ⟨r, hr, rfl⟩), by rw [e]; exact nd, fun r hr z hz => by rw [e]; exact (h r hr).2 z hz, fun r hr => (h r hr).1, few⟩
theorem zAt_all (zs : List Str) : (List.range zs.length).map (zAt zs) = zs := by
  refine List.ext_getElem? fun i => ?_
  rw [List.getElem?_map]
  by_cases h : i < zs.length
  · rw [List.getElem?_range h, zAt_get h]
    rfl
  · rw [List.getElem?_eq_none (by rw [List.length_range]; omega), List.getElem?_eq_none (by omega)]
    rfl
theorem sum_le2 : ∀ {rs : Rws}, (∀ r ∈ rs, r.2.length ≤ 2) → (rs.map fun r => r.2.length).sum ≤ 2 * rs.length
  | [], _ => Nat.le_refl _
  | a :: rs, h => by
    have h1 := h a List.mem_cons_self
    have h2 := sum_le2 (rs := rs) fun r hr => h r (List.mem_cons_of_mem _ hr)
    rw [List.map_cons, List.sum_cons, List.length_cons]
    omega
theorem RowsAt.set {H : Hp} {ps : List Addr} {rs : Rws} (h : RowsAt H ps rs) {j : Nat} {p q : Addr} {r : Str × List Str} (hp : H p = some (.tup [.str r.1, .ref q])) (hq : H q = some (.tup (r.2.map V.str))) : RowsAt H (ps.set j p) (rs.set j r) := by
  refine ⟨by rw [List.length_set, List.length_set, h.1], fun i p' r' e1 e2 => ?_⟩
  rw [List.getElem?_set] at e1 e2
  by_cases c : j = i
  · rw [if_pos c] at e1 e2
    split at e1
    · rw [if_pos (by rw [← h.1]; assumption)] at e2
      obtain rfl := Option.some.inj e1
      obtain rfl := Option.some.inj e2
      exact ⟨q, hp, hq⟩
    · cases e1
  · rw [if_neg c] at e1 e2
    exact h.2 i p' r' e1 e2
theorem map_set {α β : Type} (f : α → β) : ∀ (l : List α) (j : Nat) (x : α), (l.set j x).map f = (l.map f).set j (f x)
  | [], _, _ => rfl
  | _ :: _, 0, _ => rfl
  | a :: l, j + 1, x => by
    show f a :: (l.set j x).map f = f a :: (l.map f).set j (f x)
    rw [map_set f l j x]
theorem set_same {α : Type} : ∀ {l : List α} {j : Nat} {x : α}, l[j]? = some x → l.set j x = l
  | [], _, _, _ => rfl
  | a :: l, 0, x, h => by
    obtain rfl := Option.some.inj h
    rfl
  | a :: l, j + 1, x, h => by
    show a :: l.set j x = a :: l
    rw [set_same (by simpa using h)]
def rgRows (zs : List Str) (m i : Nat) : Rws := (List.range i).map fun k => (zAt zs k, [zAt zs ((k + 1) % m)])
def orRows (zs : List Str) (m a : Nat) (ys : List Str) : Rws := (rgRows zs m m ++ [(zAt zs m, [zAt zs a])] ++ [(zAt zs (m + 1), [])]).set a (zAt zs a, ys)
theorem orRows_good {zs ys : List Str} {m a : Nat} (hz : zs.length = m + 2) (hn : ∀ z ∈ zs, isName z = true) (nd : zs.Nodup) (m12 : m ≤ 12) (ha : a < m) (hy : ys.Perm [zAt zs ((a + 1) % m), zAt zs (m + 1)]) : GoodRows (orRows zs m a ys) := by
  have m0 : 0 < m := by omega
  have len : (orRows zs m a ys).length = m + 2 := by
    unfold orRows rgRows
    rw [List.length_set, List.length_append, List.length_append, List.length_map, List.length_range]
    rfl
  have ea : (a + 1) % m < m := Nat.mod_lt _ m0
  have per : ∀ r ∈ orRows zs m a ys, r.2.Nodup ∧ (∀ z ∈ r.2, z ∈ zs) ∧ r.2.length ≤ 2 := fun r hr => by
    unfold orRows at hr
    rcases List.mem_or_eq_of_mem_set hr with hr | rfl
    · rcases List.mem_append.mp hr with hr | hr
      · rcases List.mem_append.mp hr with hr | hr
        · obtain ⟨k, hk, rfl⟩ := List.mem_map.mp hr
          refine ⟨List.pairwise_singleton _ _, fun z hz' => ?_, Nat.le_succ 1⟩
          rw [List.mem_singleton.mp hz']
          exact zAt_mem (by rw [hz]; have := Nat.mod_lt (k + 1) m0; omega)
        · rw [List.mem_singleton.mp hr]
          refine ⟨List.pairwise_singleton _ _, fun z hz' => ?_, Nat.le_succ 1⟩
          rw [List.mem_singleton.mp hz']
          exact zAt_mem (by omega)
      · rw [List.mem_singleton.mp hr]
        exact ⟨List.nodup_nil, fun z h => (nomatch h), Nat.zero_le _⟩
    · refine ⟨hy.nodup_iff.mpr ?_, fun z hz' => ?_, by rw [hy.length_eq]; exact Nat.le_refl 2⟩
      · refine List.nodup_cons.mpr ⟨fun h => ?_, List.pairwise_singleton _ _⟩
        have := zAt_inj nd (by omega) (by omega) (List.mem_singleton.mp h)
        omega
      · have := hy.mem_iff.mp hz'
        rcases List.mem_cons.mp this with rfl | h
        · exact zAt_mem (by omega)
        · rw [List.mem_singleton.mp h]
          exact zAt_mem (by omega)
  refine good_of (zs := zs) ?_ hn nd (fun r hr => ⟨(per r hr).1, (per r hr).2.1⟩) ?_
  · unfold orRows rgRows
    rw [map_set, List.map_append, List.map_append, List.map_map]
    have e : (List.range m).map ((fun r : Str × List Str => r.1) ∘ fun k => (zAt zs k, [zAt zs ((k + 1) % m)])) ++ [(zAt zs m, [zAt zs a])].map (·.1) ++ [(zAt zs (m + 1), ([] : List Str))].map (·.1) = zs := by
      have h1 := zAt_all zs
      rw [hz, List.range_succ, List.range_succ, List.map_append, List.map_append] at h1
      exact h1
    rw [e]
    exact set_same (zAt_get (by omega))
  · have := sum_le2 fun r hr => (per r hr).2.2
    rw [len] at this
    omega
theorem row_more {H : Hp} {lr p q : Addr} {qs : List Addr} {rs : Rws} {r : Str × List Str} (hl : H lr = some (.lst (qs.map V.ref))) (rat : RowsAt H qs rs) (hq : H q = none) (hp : upd H q (.tup (r.2.map V.str)) p = none) :
    RowsAt (upd (upd (upd H q (.tup (r.2.map V.str))) p (.tup [.str r.1, .ref q])) lr (.lst ((qs ++ [p]).map V.ref))) (qs ++ [p]) (rs ++ [r]) := by
  have s : Same H (upd (upd H q (.tup (r.2.map V.str))) p (.tup [.str r.1, .ref q])) := (same_upd hq).trans (same_upd hp)
  exact RowsAt.upd_lst ((rat.mono s).snoc upd_same (upd_keep upd_same hp)) (s _ _ hl)
theorem RowsAt.out {H : Hp} {qs : List Addr} {rs : Rws} {d : Addr} {o : HO} {kvs : List (Key × V)} (rat : RowsAt H qs rs) (hd : H d = some (.dK kvs)) : RowsAt (upd H d o) qs rs := rat.fr hd Fr.refl.at_d
section
variable {P : Program} {w : World} {K : PySem.W.Frag} {mg : Str → Option Value} {base : Heap}
abbrev nOR : List Str := ["_law_source_here", "_law_many", "_law_names_here", "_law_rows_here", "_law_at", "_law_found"]
theorem scOR : FnScope nOR ["_law_source_here"] (defScope sOR) := ⟨rfl, rfl, rfl, by decide +kernel, rfl, by decide +kernel, by decide +kernel⟩
abbrev cOR : List Str := ["_law_k", "_law_names_here", "_law_many"]
theorem cOR_nd : cOR.Nodup := by decide +kernel
theorem ok_or {f fT fN : Addr} {fd fdT fdN : FuncData} (F : Fun K "_law_one_ring" "_law_one_ring" sOR f fd) (B : Blt mg) (G : KitG mg) (hT : Has K mg "_law_take" sTake ["_law_source_here", "_law_many"] fT fdT)
    (hN : Has K mg "_law_names" sNames ["_law_source_here", "_law_many"] fN fdN) : FnOk P w K mg base CX0 3 f fd ["_law_source_here"] spMk := by
  have GT : FnOk P w K mg base CX0 1 fT fdT ["_law_source_here", "_law_many"] spTake := ok_take hT.fn
  have GN : FnOk P w K mg base CX0 2 fN fdN ["_law_source_here", "_law_many"] spNames := ok_names hN.fn B hT
  refine F.okJ scOR (fun vs H Q E h => ?_) (fun cdv A outer s H vs Q E hr h => ?_)
  · obtain ⟨d, n, sd, t, rfl, _⟩ := h
    rfl
  · obtain ⟨d, n, sd, t, rfl, hd, q⟩ := h
    have hu := hu_of hr
    have r1 : Room 1 _ := hr.mono (by decide)
    refine ⟨_, jss_cons (js_set (i := 1) scOR.nd rfl (Or.inr rfl) (je_op op_add je_int (je_f hT GT r1 (by rfl) (ja_cons (jv 0) (ja_cons je_int ja_nil)))))
      (jss_cons (js_set (i := 2) scOR.nd rfl (Or.inr rfl) (je_f hN GN hr (by rfl) (ja_cons (jv 0) (ja_cons (je_op op_add (jv 1) je_int) ja_nil))))
      (jss_cons (js_setLC (i := 3) (N' := cOR) (ix := [none, some 2, some 1]) (te := tTup (tCons (tOp (rIxL K) (tVar 1) (tVar 0)) (tCons (tTup (tCons (tOp (rIxL K) (tVar 1) (tOp (rI (fun _ j => 0 < j) fun i j => .int (i % j)) (tOp (rI0 fun i j => .int (i + j)) (tVar 0) (tC (.int 1))) (tVar 2))) tNil)) tNil))) scOR.nd rfl (Or.inl rfl) rfl ⟨rfl, rfl, rfl, rfl, rfl⟩ (ji_range1 (by rfl) B.rng (ja_cons (jv 1) ja_nil))
          (fun C s2 H2 fp pins => ⟨jg_name (i := 0) cOR_nd rfl (Or.inl rfl), jts_nil, je_tup (ja_cons (je_ix ix_list (jv 1) (jv 0) (fun _ _ => rfl)) (ja_cons (je_tup (ja_cons (je_ix ix_list (jv 1) (je_op op_mod (je_op op_add (jv 0) je_int) (jv 2)) (fun _ _ => rfl)) ja_nil)) ja_nil))⟩))
      (jss_cons (js_set (i := 4) scOR.nd rfl (Or.inl rfl) (je_f hT GT r1 (by rfl) (ja_cons (jv 0) (ja_cons (jv 1) ja_nil))))
      (jss_cons (js_expr (je_bm PySem.F.plainAttrs_list PySem.F.slot_list_append PySem.F.type_list_append mt_append (jv 3) (ja_cons
          (je_tup (ja_cons (je_ix ix_list (jv 2) (jv 1) (fun _ _ => rfl)) (ja_cons (je_tup (ja_cons (je_ix ix_list (jv 2) (jv 4) (fun _ _ => rfl)) ja_nil)) ja_nil))) ja_nil)))
      (jss_cons (js_expr (je_bm PySem.F.plainAttrs_list PySem.F.slot_list_append PySem.F.type_list_append mt_append (jv 3) (ja_cons
          (je_tup (ja_cons (je_ix ix_list (jv 2) (je_op op_add (jv 1) je_int) (fun _ _ => rfl)) (ja_cons (je_tup ja_nil) ja_nil))) ja_nil)))
      (jss_cons (js_asg (je_tup (ja_cons (je_ix ix_list (jv 2) (jv 4) (fun _ _ => rfl)) (ja_cons (je_callTy call_tuple_of (by rfl) G.tup boot_tuple (ja_cons (je_callB call_sortS (by rfl) G.srt boot_sorted (ja_cons
          (je_lst (ja_cons (je_ix ix_list (jv 2) (je_op op_mod (je_op op_add (jv 4) je_int) (jv 1)) (fun _ _ => rfl)) (ja_cons (je_ix ix_list (jv 2) (je_op op_add (jv 1) je_int) (fun _ _ => rfl)) ja_nil))) ja_nil)) ja_nil)) ja_nil))) (jg_sub (jv 3) (jv 4) set_list))
      (jss_cons (js_set (i := 5) scOR.nd rfl (Or.inl rfl) (je_lst ja_nil))
      (jss_cons (js_while PassesOwn.never (jt_cmpR (op_neLN (Nat.lt_of_succ_lt hu)) (jv 3) (je_lst ja_nil) (nomark _))
        (jss_one (js_expr (je_bm PySem.F.plainAttrs_list PySem.F.slot_list_append PySem.F.type_list_append mt_append (jv 5) (ja_cons
          (je_bm PySem.F.plainAttrs_list PySem.F.slot_list_pop PySem.F.type_list_pop mt_popAt (jv 3) (ja_cons (je_f hT GT r1 (by rfl) (ja_cons (jv 0) (ja_cons (je_callB call_len_seq (by rfl) B.len boot_len (ja_cons (jv 3) ja_nil)) ja_nil))) ja_nil)) ja_nil)))))
      (jss_one (js_ret (jv 5))))))))))), ?_⟩
    refine ⟨_, rfl, d, 12, n, sd, t, rfl, hd, by decide, by decide, fun r n1 t1 r0 r1 => ⟨_, _, rfl, rfl, ?_⟩⟩
    obtain ⟨m, em, m0, m1⟩ : ∃ m : Nat, 1 + r = (m : Int) ∧ 0 < m ∧ m ≤ 12 := ⟨(1 + r).toNat, by omega, by omega, by omega⟩
    have em' : (fun i j : Int => V.int (i + j)) 1 r = V.int (m : Int) := congrArg V.int em
    rw [em']
    refine ⟨_, rfl, _, rfl, _, _, rfl, rfl, d, m + 2, n1, sd, t1, rfl, upd_same, by omega, fun lz zs n2 t2 H2 hlz hlz' zl zn znd hd2 fr2 => ?_⟩
    have fr2 : Fr H d H2 := Fr.refl.at_d.trans fr2
    refine ⟨_, rfl, m, rfl, by omega, by omega, fun D hD => ?_⟩
    have hD0 : H D = none := fr2.fresh hd2 hD
    refine blk_range (fun i σ' H' => ∃ (v : Option V) (qs : List Addr), σ' = [v, some (.ref lz), some (.int m)] ∧ Same H2 H' ∧ H' D = some (.lst (qs.map V.ref)) ∧ RowsAt H' qs (rgRows zs m i)) ⟨none, [], rfl, same_upd hD, upd_same, rfl, fun i p r e => (nomatch e)⟩ ?_ ?_
    · rintro i σ' H' hi ⟨v, qs, rfl, sH, hDl, rat⟩
      rw [Int.zero_add]
      have hi : i < m := by simpa using hi
      have im : (i + 1) % m < m := Nat.mod_lt _ m0
      have hz' := sH _ _ hlz'
      refine ⟨_, rfl, _, rfl, lz, _, _, _, rfl, rfl, .of hz', zs_at (by omega), _, rfl, _, rfl, _, _, rfl, rfl, _, rfl, _, _, rfl, rfl, (by show (0 : Int) < m; omega), ?_⟩
      have ei : ((i : Int) + 1) % (m : Int) = (((i + 1) % m : Nat) : Int) := by rw [Int.natCast_emod]; rfl
      have ei2 : atI (zs.map V.str) (((i : Int) + 1) % (m : Int)) = some (V.str (zAt zs ((i + 1) % m))) := by rw [ei]; exact zs_at (by omega)
      refine ⟨lz, _, _, _, rfl, rfl, .of hz', ei2, by show 1 ≤ sizeLine; decide, fun q0 hq0 => ⟨by show 2 ≤ sizeLine; decide, fun p0 hp0 => ?_⟩⟩
      have rm := row_more (r := (zAt zs i, [zAt zs ((i + 1) % m)])) hDl rat hq0 hp0
      refine ⟨_, upd_keep (upd_keep hDl hq0) hp0, ?_, _, qs ++ [p0], rfl, Same.upd ((sH.trans (same_upd hq0)).trans (same_upd hp0)) hD, ?_, ?_⟩
      · have := rat.1
        unfold rgRows at this
        rw [List.length_map, List.length_range] at this
        rw [List.length_map, this]
        exact small1000 (by omega)
      · rw [List.map_append]; exact upd_same
      · rw [List.map_append] at rm
        unfold rgRows
        rw [List.range_succ, List.map_append]
        exact rm
    rintro σ' H3 ⟨v, qs, rfl, s3, hD3, rat3⟩
    have lq : qs.length = m := by
      have := rat3.1
      unfold rgRows at this
      rwa [List.length_map, List.length_range] at this
    have hd3 := s3 _ _ hd2
    have hz3 := s3 _ _ hlz'
    have nDd : D ≠ d := fun e => by rw [e, hd3] at hD3; cases hD3
    have nzd : lz ≠ d := fun e => by rw [e, hd3] at hz3; cases hz3
    have nDz : D ≠ lz := fun e => by rw [e, hlz'] at hD; cases hD
    refine ⟨_, rfl, _, rfl, d, m, n2, sd, t2, rfl, hd3, by omega, by omega, fun ai n4 t4 a0 a1 => ?_⟩
    obtain ⟨a, rfl⟩ : ∃ a : Nat, ai = (a : Int) := ⟨ai.toNat, by omega⟩
    have am : a < m := by omega
    have fr4 : Fr H d (upd H3 d (.dK (src n4 sd t4))) := (fr2.same s3).at_d
    have hd4 : upd H3 d (.dK (src n4 sd t4)) d = some (.dK (src n4 sd t4)) := upd_same
    have hz4 : upd H3 d (.dK (src n4 sd t4)) lz = some (.lst (zs.map V.str)) := by rw [upd_ne nzd]; exact hz3
    have hD4 : upd H3 d (.dK (src n4 sd t4)) D = some (.lst (qs.map V.ref)) := by rw [upd_ne nDd]; exact hD3
    have rat4 : RowsAt (upd H3 d (.dK (src n4 sd t4))) qs (rgRows zs m m) := rat3.out hd3
    generalize upd H3 d (.dK (src n4 sd t4)) = H4 at fr4 hd4 hz4 hD4 rat4 ⊢
    refine ⟨_, rfl, .inl ⟨rfl, _, .of hD4⟩, _, rfl, _, rfl, lz, _, _, _, rfl, rfl, .of hz4, zs_at (by omega), _, rfl, _, rfl, lz, _, _, _, rfl, rfl, .of hz4, zs_at (by omega), by show 1 ≤ sizeLine; decide, fun q1 hq1 => ⟨by show 2 ≤ sizeLine; decide, fun p1 hp1 =>
      ⟨D, _, _, rfl, rfl, upd_keep (upd_keep hD4 hq1) hp1, by rw [List.length_map, lq]; exact small1000 (by omega), ?_⟩⟩⟩
    have s5 : Same H4 (upd (upd H4 q1 (.tup [V.str (zAt zs a)])) p1 (.tup [.str (zAt zs m), .ref q1])) := (same_upd hq1).trans (same_upd hp1)
    have rat5 := row_more (r := (zAt zs m, [zAt zs a])) hD4 rat4 hq1 hp1
    have e5 : qs.map V.ref ++ [V.ref p1] = (qs ++ [p1]).map V.ref := by rw [List.map_append]; rfl
    rw [e5]
    have fr5 : Fr H d (upd (upd (upd H4 q1 (.tup [V.str (zAt zs a)])) p1 (.tup [.str (zAt zs m), .ref q1])) D (.lst ((qs ++ [p1]).map V.ref))) := (fr4.same s5).own hD0
    have hd5 : upd (upd (upd H4 q1 (.tup [V.str (zAt zs a)])) p1 (.tup [.str (zAt zs m), .ref q1])) D (.lst ((qs ++ [p1]).map V.ref)) d = some (.dK (src n4 sd t4)) := by rw [upd_ne (Ne.symm nDd)]; exact s5 _ _ hd4
    have hz5 : upd (upd (upd H4 q1 (.tup [V.str (zAt zs a)])) p1 (.tup [.str (zAt zs m), .ref q1])) D (.lst ((qs ++ [p1]).map V.ref)) lz = some (.lst (zs.map V.str)) := by rw [upd_ne (Ne.symm nDz)]; exact s5 _ _ hz4
    have hD5 : upd (upd (upd H4 q1 (.tup [V.str (zAt zs a)])) p1 (.tup [.str (zAt zs m), .ref q1])) D (.lst ((qs ++ [p1]).map V.ref)) D = some (.lst ((qs ++ [p1]).map V.ref)) := upd_same
    have rat5' : RowsAt (upd (upd (upd H4 q1 (.tup [V.str (zAt zs a)])) p1 (.tup [.str (zAt zs m), .ref q1])) D (.lst ((qs ++ [p1]).map V.ref))) (qs ++ [p1]) (rgRows zs m m ++ [(zAt zs m, [zAt zs a])]) := rat5
    generalize upd (upd (upd H4 q1 (.tup [V.str (zAt zs a)])) p1 (.tup [.str (zAt zs m), .ref q1])) D (.lst ((qs ++ [p1]).map V.ref)) = H5 at fr5 hd5 hz5 hD5 rat5' ⊢
    clear rat5
    have em1 : atI (zs.map V.str) ((m : Int) + 1) = some (V.str (zAt zs (m + 1))) := zs_at (j := m + 1) (by omega)
    refine ⟨_, rfl, .inl ⟨rfl, _, .of hD5⟩, _, rfl, _, rfl, _, _, rfl, rfl, lz, _, _, _, rfl, rfl, .of hz5, em1, by show 0 ≤ sizeLine; decide, fun q2 hq2 => ⟨by show 2 ≤ sizeLine; decide, fun p2 hp2 =>
      ⟨D, _, _, rfl, rfl, upd_keep (upd_keep hD5 hq2) hp2, by rw [List.length_map, List.length_append, lq]; exact small1000 (by show m + 1 ≤ 1000; omega), ?_⟩⟩⟩
    have s6 : Same H5 (upd (upd H5 q2 (.tup [])) p2 (.tup [.str (zAt zs (m + 1)), .ref q2])) := (same_upd hq2).trans (same_upd hp2)
    have rat6 : RowsAt (upd (upd (upd H5 q2 (.tup [])) p2 (.tup [.str (zAt zs (m + 1)), .ref q2])) D (.lst ((qs ++ [p1] ++ [p2]).map V.ref))) (qs ++ [p1] ++ [p2]) (rgRows zs m m ++ [(zAt zs m, [zAt zs a])] ++ [(zAt zs (m + 1), [])]) := row_more (r := (zAt zs (m + 1), [])) hD5 rat5' hq2 hp2
    have e6 : (qs ++ [p1]).map V.ref ++ [V.ref p2] = (qs ++ [p1] ++ [p2]).map V.ref := by rw [List.map_append (l₁ := qs ++ [p1])]; rfl
    rw [e6]
    have fr6 : Fr H d (upd (upd (upd H5 q2 (.tup [])) p2 (.tup [.str (zAt zs (m + 1)), .ref q2])) D (.lst ((qs ++ [p1] ++ [p2]).map V.ref))) := (fr5.same s6).own hD0
    have hd6 : upd (upd (upd H5 q2 (.tup [])) p2 (.tup [.str (zAt zs (m + 1)), .ref q2])) D (.lst ((qs ++ [p1] ++ [p2]).map V.ref)) d = some (.dK (src n4 sd t4)) := by rw [upd_ne (Ne.symm nDd)]; exact s6 _ _ hd5
    have hz6 : upd (upd (upd H5 q2 (.tup [])) p2 (.tup [.str (zAt zs (m + 1)), .ref q2])) D (.lst ((qs ++ [p1] ++ [p2]).map V.ref)) lz = some (.lst (zs.map V.str)) := by rw [upd_ne (Ne.symm nDz)]; exact s6 _ _ hz5
    have hD6 : upd (upd (upd H5 q2 (.tup [])) p2 (.tup [.str (zAt zs (m + 1)), .ref q2])) D (.lst ((qs ++ [p1] ++ [p2]).map V.ref)) D = some (.lst ((qs ++ [p1] ++ [p2]).map V.ref)) := upd_same
    generalize upd (upd (upd H5 q2 (.tup [])) p2 (.tup [.str (zAt zs (m + 1)), .ref q2])) D (.lst ((qs ++ [p1] ++ [p2]).map V.ref)) = H6 at fr6 hd6 hz6 hD6 rat6 ⊢
    have ia : (a + 1) % m < m := Nat.mod_lt _ m0
    have ea : ((a : Int) + 1) % (m : Int) = (((a + 1) % m : Nat) : Int) := by rw [Int.natCast_emod]; rfl
    refine ⟨_, rfl, _, rfl, lz, _, _, _, rfl, rfl, .of hz6, zs_at (by omega), _, rfl, _, rfl, _, _, rfl, rfl, _, rfl, _, _, rfl, rfl, (by show (0 : Int) < m; omega), ?_⟩
    have ea2 : atI (zs.map V.str) (((a : Int) + 1) % (m : Int)) = some (V.str (zAt zs ((a + 1) % m))) := by rw [ea]; exact zs_at (by omega)
    refine ⟨lz, _, _, _, rfl, rfl, .of hz6, ea2, _, rfl, _, rfl, _, _, rfl, rfl, lz, _, _, _, rfl, rfl, .of hz6, em1, by show 2 ≤ sizeLine; decide, fun l7 hl7 => ?_⟩
    refine ⟨l7, [zAt zs ((a + 1) % m), zAt zs (m + 1)], rfl, .of upd_same, by show 2 < 64; decide, fun l8 hl8 => ?_⟩
    obtain ⟨ys, hys⟩ : ∃ ys, (srt [zAt zs ((a + 1) % m), zAt zs (m + 1)]).map (fun i => [zAt zs ((a + 1) % m), zAt zs (m + 1)].getD i "") = ys := ⟨_, rfl⟩
    have py : ys.Perm [zAt zs ((a + 1) % m), zAt zs (m + 1)] := by
      rw [← hys]
      exact (srt_perm [zAt zs ((a + 1) % m), zAt zs (m + 1)]).map _
    have ey : (srt [zAt zs ((a + 1) % m), zAt zs (m + 1)]).map (fun i => V.str ([zAt zs ((a + 1) % m), zAt zs (m + 1)].getD i "")) = ys.map V.str := by
      rw [← hys, List.map_map]
      rfl
    rw [ey]
    have s7 : Same H6 (upd H6 l7 (.lst [V.str (zAt zs ((a + 1) % m)), V.str (zAt zs (m + 1))])) := same_upd hl7
    have s8 := s7.trans (same_upd (o := HO.lst (ys.map V.str)) hl8)
    have hl8' : upd (upd H6 l7 (.lst [V.str (zAt zs ((a + 1) % m)), V.str (zAt zs (m + 1))])) l8 (.lst (ys.map V.str)) l8 = some (.lst (ys.map V.str)) := upd_same
    generalize upd (upd H6 l7 (.lst [V.str (zAt zs ((a + 1) % m)), V.str (zAt zs (m + 1))])) l8 (.lst (ys.map V.str)) = H8 at s8 hl8' ⊢
    refine ⟨l8, _, rfl, .inl ⟨.of hl8', fun q9 hq9 => ⟨by show 2 ≤ sizeLine; decide, fun p9 hp9 => ?_⟩⟩⟩
    have s9 := s8.trans ((same_upd (o := HO.tup (ys.map V.str)) hq9).trans (same_upd (o := HO.tup [V.str (zAt zs a), V.ref q9]) hp9))
    have hp9' : upd (upd H8 q9 (.tup (ys.map V.str))) p9 (.tup [V.str (zAt zs a), V.ref q9]) p9 = some (.tup [V.str (zAt zs a), V.ref q9]) := upd_same
    have hq9' : upd (upd H8 q9 (.tup (ys.map V.str))) p9 (.tup [V.str (zAt zs a), V.ref q9]) q9 = some (.tup (ys.map V.str)) := upd_keep upd_same hp9
    generalize upd (upd H8 q9 (.tup (ys.map V.str))) p9 (.tup [V.str (zAt zs a), V.ref q9]) = H9 at s9 hp9' hq9' ⊢
    have lq2 : ((qs ++ [p1] ++ [p2]).map V.ref).length = m + 2 := by rw [List.length_map, List.length_append, List.length_append, lq]; rfl
    refine ⟨_, rfl, _, rfl, D, _, (a : Int), a, rfl, rfl, s9 _ _ hD6, ?_, ?_⟩
    · unfold ixN
      rw [if_pos (by omega), if_pos (by rw [lq2]; omega)]
      rfl
    have es : ((qs ++ [p1] ++ [p2]).map V.ref).set a (V.ref p9) = ((qs ++ [p1] ++ [p2]).set a p9).map V.ref := (map_set _ _ _ _).symm
    rw [es]
    have rat10 : RowsAt (upd H9 D (.lst (((qs ++ [p1] ++ [p2]).set a p9).map V.ref))) ((qs ++ [p1] ++ [p2]).set a p9) (orRows zs m a ys) := RowsAt.upd_lst ((rat6.mono s9).set (r := (zAt zs a, ys)) hp9' hq9') (s9 _ _ hD6)
    have fr10 : Fr H d (upd H9 D (.lst (((qs ++ [p1] ++ [p2]).set a p9).map V.ref))) := (fr6.same s9).own hD0
    have hd10 : upd H9 D (.lst (((qs ++ [p1] ++ [p2]).set a p9).map V.ref)) d = some (.dK (src n4 sd t4)) := by rw [upd_ne (Ne.symm nDd)]; exact s9 _ _ hd6
    have hD10 : upd H9 D (.lst (((qs ++ [p1] ++ [p2]).set a p9).map V.ref)) D = some (.lst (((qs ++ [p1] ++ [p2]).set a p9).map V.ref)) := upd_same
    generalize upd H9 D (.lst (((qs ++ [p1] ++ [p2]).set a p9).map V.ref)) = H10 at rat10 fr10 hd10 hD10 ⊢
    have len : (orRows zs m a ys).length = m + 2 := by
      unfold orRows rgRows
      rw [List.length_set, List.length_append, List.length_append, List.length_map, List.length_range]
      rfl
    refine ⟨by show 0 ≤ sizeLine; decide, fun lf hlf => ?_⟩
    have lf0 : H lf = none := fr10.fresh hd10 hlf
    refine shuffle (K := K) (d := d) (lr := D) (lf := lf) (sd := sd) (n := n4) (t := t4) (H0 := H) (rs0 := orRows zs m a ys) (qs := (qs ++ [p1] ++ [p2]).set a p9) rfl rfl ?_ (upd_keep hd10 hlf) (upd_keep hD10 hlf) (rat10.mono (same_upd hlf)) upd_same (fr10.own lf0) hD0 lf0 (fun e => by rw [← e, hD10] at hlf; cases hlf) (by omega) ?_
    · intro H' xs n' t' Q' h1 h2 h3 h4 k
      exact ⟨_, rfl, _, rfl, D, _, rfl, .inl (.of h2), d, (xs.length : Int), n', sd, t', rfl, h1, by omega, by omega, k⟩
    · intro H' ps rs n' t' h1 h2 pm h3 h4
      exact ⟨_, rfl, q lf ps rs n' t' H' lf0 h1 h2 ((orRows_good zl zn znd m1 am py).perm pm) (by rw [pm.length_eq, len]; omega) (by rw [pm.length_eq, len]; omega) h3 h4⟩
end
end Rh
set_option Elab.async false
set_option linter.all false
set_option maxRecDepth 100000
set_option maxHeartbeats 4000000
namespace Rh
open PySem L2 PyProof.Rows MRing
abbrev sLD : Stmt := top 35
section
variable {P : Program} {w : World} {K : PySem.W.Frag} {mg : Str → Option Value} {base : Heap}
abbrev nLD : List Str := ["_law_source_here", "_law_many", "_law_names_here", "_law_rows_here", "_law_roads", "_law_k", "_law_leads_here", "_law_found"]
theorem scLD : FnScope nLD ["_law_source_here"] (defScope sLD) := ⟨rfl, rfl, rfl, by decide +kernel, rfl, by decide +kernel, by decide +kernel⟩
abbrev cLD : List Str := ["_law_j", "_law_source_here", "_law_names_here"]
theorem cLD_nd : cLD.Nodup := by decide +kernel
theorem ok_ld {f fT fN : Addr} {fd fdT fdN : FuncData} (F : Fun K "_law_ladder" "_law_ladder" sLD f fd) (B : Blt mg) (G : KitG mg) (hT : Has K mg "_law_take" sTake ["_law_source_here", "_law_many"] fT fdT)
    (hN : Has K mg "_law_names" sNames ["_law_source_here", "_law_many"] fN fdN) : FnOk P w K mg base CX0 3 f fd ["_law_source_here"] spMk := by
  have GT : FnOk P w K mg base CX0 1 fT fdT ["_law_source_here", "_law_many"] spTake := ok_take hT.fn
  have GN : FnOk P w K mg base CX0 2 fN fdN ["_law_source_here", "_law_many"] spNames := ok_names hN.fn B hT
  refine F.okJ scLD (fun vs H Q E h => ?_) (fun cdv A outer s H vs Q E hr h => ?_)
  · obtain ⟨d, n, sd, t, rfl, _⟩ := h
    rfl
  · obtain ⟨d, n, sd, t, rfl, hd, q⟩ := h
    have hu := hu_of hr
    have r1 : Room 1 _ := hr.mono (by decide)
    refine ⟨_, jss_cons (js_set (i := 1) scLD.nd rfl (Or.inl rfl) (je_op op_add je_int (je_f hT GT r1 (by rfl) (ja_cons (jv 0) (ja_cons je_int ja_nil)))))
      (jss_cons (js_set (i := 2) scLD.nd rfl (Or.inr rfl) (je_f hN GN hr (by rfl) (ja_cons (jv 0) (ja_cons (jv 1) ja_nil))))
      (jss_cons (js_set (i := 3) scLD.nd rfl (Or.inl rfl) (je_lst ja_nil))
      (jss_cons (js_set (i := 4) scLD.nd rfl (Or.inl rfl) je_int)
      (jss_cons (js_for PassesOwn.never rfl (ji_range1 (by rfl) B.rng (ja_cons (jv 1) ja_nil)) (jg_name (i := 5) scLD.nd rfl (Or.inl rfl))
        (jss_cons (js_set (i := 6) scLD.nd rfl (Or.inl rfl) (je_slice sl_list (je_lc (N' := cLD) (ix := [none, some 0, some 2]) (te := tOp (rIxL K) (tVar 2) (tVar 0)) rfl ⟨rfl, rfl, rfl, rfl, rfl⟩ (ji_range1 (by rfl) B.rng (ja_cons (jv 5) ja_nil))
            (fun C s2 H2 fp pins => ⟨jg_name (i := 0) cLD_nd rfl (Or.inl rfl), jts_one (jt_cmpR op_eq (je_f hT GT r1 (by rfl) (ja_cons (jv 1) (ja_cons je_int ja_nil))) je_int (nomark _)), je_ix ix_list (jv 2) (jv 0) (fun _ _ => rfl)⟩)) jo_none (jo_some (je_op op_sub je_int (jv 4)))))
        (jss_cons (js_set (i := 4) scLD.nd rfl (Or.inl rfl) (je_op op_add (jv 4) (je_callB call_len_seq (by rfl) B.len boot_len (ja_cons (jv 6) ja_nil))))
        (jss_one (js_expr (je_bm PySem.F.plainAttrs_list PySem.F.slot_list_append PySem.F.type_list_append mt_append (jv 3) (ja_cons
          (je_tup (ja_cons (je_ix ix_list (jv 2) (jv 5) (fun _ _ => rfl)) (ja_cons (je_callTy call_tuple_of (by rfl) G.tup boot_tuple (ja_cons (jv 6) ja_nil)) ja_nil))) ja_nil)))))))
      (jss_cons (js_set (i := 7) scLD.nd rfl (Or.inl rfl) (je_lst ja_nil))
      (jss_cons (js_while PassesOwn.never (jt_cmpR (op_neLN (Nat.lt_of_succ_lt hu)) (jv 3) (je_lst ja_nil) (nomark _))
        (jss_one (js_expr (je_bm PySem.F.plainAttrs_list PySem.F.slot_list_append PySem.F.type_list_append mt_append (jv 7) (ja_cons
          (je_bm PySem.F.plainAttrs_list PySem.F.slot_list_pop PySem.F.type_list_pop mt_popAt (jv 3) (ja_cons (je_f hT GT r1 (by rfl) (ja_cons (jv 0) (ja_cons (je_callB call_len_seq (by rfl) B.len boot_len (ja_cons (jv 3) ja_nil)) ja_nil))) ja_nil)) ja_nil)))))
      (jss_one (js_ret (jv 7))))))))), ?_⟩
    refine ⟨_, rfl, d, 14, n, sd, t, rfl, hd, by decide, by decide, fun r n1 t1 r0 r1 => ⟨_, _, rfl, rfl, ?_⟩⟩
    obtain ⟨m, em, m0, m1⟩ : ∃ m : Nat, 1 + r = (m : Int) ∧ 0 < m ∧ m ≤ 14 := ⟨(1 + r).toNat, by omega, by omega, by omega⟩
    have em' : (fun i j : Int => V.int (i + j)) 1 r = V.int (m : Int) := congrArg V.int em
    rw [em']
    refine ⟨_, rfl, _, rfl, d, m, n1, sd, t1, rfl, upd_same, by omega, fun lz zs n2 t2 H2 hlz hlz' zl zn znd hd2 fr2 => ?_⟩
    have fr2 : Fr H d H2 := Fr.refl.at_d.trans fr2
    have nzd : lz ≠ d := fun e => by rw [e, hd2] at hlz'; cases hlz'
    refine ⟨by show 0 ≤ sizeLine; decide, fun lr hlr => ⟨_, rfl, m, rfl, by omega, by omega, ?_⟩⟩
    have hlr0 : H lr = none := fr2.fresh hd2 hlr
    have nrd : lr ≠ d := fun e => by rw [e, hd2] at hlr; cases hlr
    have nrz : lr ≠ lz := fun e => by rw [e, hlz'] at hlr; cases hlr
    refine for_range (lo := 0) (n := m) (fun i σ' H' => ∃ (v5 v6 : Option V) (n' t' : Int) (qs : List Addr) (rs : Rws) (rd : Nat), σ' = [some (.ref d), some (.int m), some (.ref lz), some (.ref lr), some (.int (rd : Int)), v5, v6, none] ∧
        H' d = some (.dK (src n' sd t')) ∧ H' lz = some (.lst (zs.map V.str)) ∧ H' lr = some (.lst (qs.map V.ref)) ∧ RowsAt H' qs rs ∧ rs.map (·.1) = zs.take i ∧ (∀ r ∈ rs, r.2.Nodup ∧ ∀ z ∈ r.2, z ∈ zs) ∧ rd = (rs.map fun r => r.2.length).sum ∧ rd ≤ 40 ∧ Fr H d H')
      ⟨none, none, n2, t2, [], [], 0, rfl, upd_keep hd2 hlr, upd_keep hlz' hlr, upd_same, ⟨rfl, fun i p r e => (nomatch e)⟩, rfl, fun r h => (nomatch h), rfl, by decide, fr2.own hlr0⟩ ?_ ?_
    · rintro i σ' H' hi ⟨v5, v6, n', t', qs, rs, rd, rfl, hd', hz', hr', rat, em2, per, erd, rd40, fr⟩
      rw [Int.zero_add]
      refine ⟨_, rfl, i, rfl, by omega, by omega, fun W hW => ?_⟩
      have hW0 : H W = none := fr.fresh hd' hW
      have nWd : W ≠ d := fun e => by rw [e, hd'] at hW; cases hW
      have nWz : W ≠ lz := fun e => by rw [e, hz'] at hW; cases hW
      have nWr : W ≠ lr := fun e => by rw [e, hr'] at hW; cases hW
      refine blk_range (fun j σ'' G => ∃ (v0 : Option V) (n3 t3 : Int) (ys : List Str), σ'' = [v0, some (.ref d), some (.ref lz)] ∧ G d = some (.dK (src n3 sd t3)) ∧ G W = some (.lst (ys.map V.str)) ∧ ys.Sublist (zs.take j) ∧ Fr H' d G)
        ⟨none, n', t', [], rfl, upd_keep hd' hW, upd_same, List.nil_sublist _, Fr.refl.own hW⟩ ?_ ?_
      · rintro j σ'' G hj ⟨v0, n3, t3, ys, rfl, hdG, hWG, sub, frG⟩
        rw [Int.zero_add]
        have hj : j < i := by simpa using hj
        refine ⟨_, rfl, d, 3, n3, sd, t3, rfl, hdG, by decide, by decide, fun r n4 t4 _ _ => ⟨rfl, _, rfl, ?_⟩⟩
        have hz4 : upd G d (.dK (src n4 sd t4)) lz = some (.lst (zs.map V.str)) := by rw [upd_ne nzd]; exact frG _ _ hz' nzd
        have hW4 : upd G d (.dK (src n4 sd t4)) W = some (.lst (ys.map V.str)) := by rw [upd_ne nWd]; exact hWG
        have fr4 : Fr H' d (upd G d (.dK (src n4 sd t4))) := frG.at_d
        have hd4 : upd G d (.dK (src n4 sd t4)) d = some (.dK (src n4 sd t4)) := upd_same
        generalize upd G d (.dK (src n4 sd t4)) = G4 at hz4 hW4 fr4 hd4 ⊢
        have lj := sub.length_le
        rw [List.length_take] at lj
        have e2 : zs.take (j + 1) = zs.take j ++ [zAt zs j] := by rw [List.take_add_one, zAt_get (by omega)]; rfl
        refine ite2 (fun _ => ?_) (fun _ => ?_)
        · refine ⟨_, rfl, _, rfl, lz, _, _, _, rfl, rfl, .of hz4, zs_at (by omega), _, hW4, by rw [List.length_map]; exact small1000 (by omega), _, n4, t4, ys ++ [zAt zs j], rfl, ?_, ?_, ?_, fr4.own hW⟩
          · rw [upd_ne (Ne.symm nWd)]; exact hd4
          · rw [List.map_append]; exact upd_same
          · rw [e2]; exact sub.append (List.Sublist.refl _)
        · refine ⟨_, n4, t4, ys, rfl, hd4, hW4, ?_, fr4⟩
          rw [e2]
          exact sub.trans (List.sublist_append_left _ _)
      · rintro σ'' G ⟨v0, n3, t3, ys, rfl, hdG, hWG, sub, frG⟩
        refine ⟨_, rfl, _, _, rfl, rfl, _, rfl, W, _, rfl, .of hWG, fun p hp => ?_⟩
        have e40 : (40 : Int) - (rd : Int) = ((40 - rd : Nat) : Int) := by omega
        have ecut : L2.cutV (ys.map V.str) none (some ((40 : Int) - (rd : Int))) = (ys.take (40 - rd)).map V.str := by rw [e40, cut_head]
        rw [ecut]
        have sub' : (ys.take (40 - rd)).Sublist (zs.take i) := (List.take_sublist _ _).trans sub
        have l40 : (ys.take (40 - rd)).length ≤ 40 - rd := by rw [List.length_take]; omega
        generalize ys.take (40 - rd) = xs at sub' l40 ⊢
        have lx := sub'.length_le
        rw [List.length_take] at lx
        have sp : Same G (upd G p (.lst (xs.map V.str))) := same_upd hp
        have hp1 : upd G p (.lst (xs.map V.str)) p = some (.lst (xs.map V.str)) := upd_same
        have fr1 : Fr H' d (upd G p (.lst (xs.map V.str))) := frG.same sp
        have hd1 := sp _ _ hdG
        generalize upd G p (.lst (xs.map V.str)) = G1 at sp hp1 fr1 hd1 ⊢
        have hz1 := fr1 _ _ hz' nzd
        have hr1 := fr1 _ _ hr' nrd
        have rat1 := rat.fr hd' fr1
        have li : i < zs.length := by omega
        have lr1 : qs.length = i := by
          have := rat.1
          have l2 := congrArg List.length em2
          rw [List.length_map, List.length_take] at l2
          omega
        refine ⟨_, rfl, _, rfl, p, _, rfl, .inl (.of hp1), _, _, rfl, rfl, ?_⟩
        refine ⟨_, rfl, .inl ⟨rfl, _, .of hr1⟩, _, rfl, _, rfl, lz, _, _, _, rfl, rfl, .of hz1, zs_at li, _, rfl, p, _, rfl, .inl ⟨.of hp1, fun q2 hq2 => ⟨by show 2 ≤ sizeLine; decide, fun p2 hp2 => ?_⟩⟩⟩
        have s2 := (same_upd (o := HO.tup (xs.map V.str)) hq2).trans (same_upd (o := HO.tup [V.str (zAt zs i), V.ref q2]) hp2)
        refine ⟨lr, _, _, rfl, rfl, s2 _ _ hr1, by rw [List.length_map, lr1]; exact small1000 (by omega), ?_⟩
        have rm := row_more (r := (zAt zs i, xs)) hr1 rat1 hq2 hp2
        refine ⟨some (.int (i : Int)), some (.ref p), n3, t3, qs ++ [p2], rs ++ [(zAt zs i, xs)], rd + xs.length, ?_, ?_, ?_, ?_, ?_, ?_, fun r hr2 => ?_, ?_, by omega, ?_⟩
        · rw [List.length_map]
          rfl
        · rw [upd_ne (Ne.symm nrd)]; exact s2 _ _ hd1
        · rw [upd_ne (Ne.symm nrz)]; exact s2 _ _ hz1
        · rw [List.map_append]; exact upd_same
        · rw [List.map_append] at rm
          exact rm
        · rw [List.map_append, em2, List.take_add_one, zAt_get li]
          rfl
        · rcases List.mem_append.mp hr2 with hr2 | hr2
          · exact per r hr2
          · rw [List.mem_singleton.mp hr2]
            exact ⟨(znd.sublist (List.take_sublist _ _)).sublist sub', fun z hz => List.mem_of_mem_take (sub'.subset hz)⟩
        · rw [List.map_append, List.sum_append, ← erd]
          simp
        · exact (((fr.trans fr1).same s2)).own hlr0
    · rintro σ' H' ⟨v5, v6, n', t', qs, rs, rd, rfl, hd', hz', hr', rat, em2, per, erd, rd40, fr⟩
      rw [List.take_of_length_le (by omega)] at em2
      have good : GoodRows rs := good_of em2 zn znd per (by omega)
      have len : rs.length = m := by rw [← zl, ← em2, List.length_map]
      refine ⟨by show 0 ≤ sizeLine; decide, fun lf hlf => ?_⟩
      have lf0 : H lf = none := fr.fresh hd' hlf
      refine shuffle (K := K) (d := d) (lr := lr) (lf := lf) (sd := sd) (n := n') (t := t') (H0 := H) (rs0 := rs) (qs := qs) rfl rfl ?_ (upd_keep hd' hlf) (upd_keep hr' hlf) (rat.mono (same_upd hlf)) upd_same (fr.own lf0) hlr0 lf0 (fun e => by rw [← e, hr'] at hlf; cases hlf) (by omega) ?_
      · intro H' xs n' t' Q' h1 h2 h3 h4 k
        exact ⟨_, rfl, _, rfl, lr, _, rfl, .inl (.of h2), d, (xs.length : Int), n', sd, t', rfl, h1, by omega, by omega, k⟩
      · intro H' ps rs' n' t' h1 h2 pm h3 h4
        exact ⟨_, rfl, q lf ps rs' n' t' H' lf0 h1 h2 (good.perm pm) (by rw [pm.length_eq, len]; omega) (by rw [pm.length_eq, len]; omega) h3 h4⟩
end
end Rh
set_option Elab.async false
set_option linter.all false
set_option maxRecDepth 100000
set_option maxHeartbeats 4000000
namespace Rh
open PySem L2 PyProof.Rows MRing
def spLaw (K : PySem.W.Frag) : Sp := fun vs H Q _ => ∃ (a : Addr) (ns : List Int), vs = [.ref a] ∧ SqL K H a (ns.map V.int) ∧ ns.length ≤ 63 ∧ ∀ H', Q (.bl true) H'
theorem _root_.L2.SqL.mono {K : PySem.W.Frag} {H H' : Hp} {p : Addr} {xs : List V} (h : SqL K H p xs) (s : Same H H') : SqL K H' p xs := by
  rcases h with (h | ⟨o, h⟩) | h
  · exact .inl (.inl (s _ _ h))
  · exact .inl (.inr ⟨o, s _ _ h⟩)
  · exact .inr h
theorem mosts {r : Int} (h0 : 0 ≤ r) (h1 : r < 4) : ∃ mo : Nat, atI [V.int 5, .int 7, .int 9, .int 14] r = some (.int (mo : Int)) ∧ 0 < mo ∧ mo ≤ 14 := by
  have : r = 0 ∨ r = 1 ∨ r = 2 ∨ r = 3 := by omega
  rcases this with rfl | rfl | rfl | rfl
  · exact ⟨5, rfl, by decide, by decide⟩
  · exact ⟨7, rfl, by decide, by decide⟩
  · exact ⟨9, rfl, by decide, by decide⟩
  · exact ⟨14, rfl, by decide, by decide⟩
theorem jb_of {n jj : Int} (h0 : 0 ≤ n) (h : (if (if (14 : Int) < n then (14 : Int) else n) > 3 then (if (14 : Int) < n then (14 : Int) else n) else 3) = jj) : -(2 ^ 62) ≤ jj ∧ jj < 2 ^ 62 := by
  subst h
  split <;> split <;> omega
section
variable {P : Program} {w : World} {K : PySem.W.Frag} {mg : Str → Option Value} {base : Heap}
abbrev nLaw : List Str := ["_law_script", "_law_k", "_law_source_here", "_law_way", "_law_rows_here", "_law_ground", "_law_none", "_law_turn", "_law_ring"]
theorem scLaw : FnScope nLaw ["_law_script"] (defScope sLaw) := ⟨rfl, rfl, rfl, by decide +kernel, rfl, by decide +kernel, by decide +kernel⟩
structure HasL (K : PySem.W.Frag) (mg : Str → Option Value) : Prop where
  cell : ∃ f fd, Has K mg "_law_cell_at" sCell ["_law_script", "_law_k"] f fd
  source : ∃ f fd, Has K mg "_law_source" sSource ["_law_cell"] f fd
  take : ∃ f fd, Has K mg "_law_take" sTake ["_law_source_here", "_law_many"] f fd
  names : ∃ f fd, Has K mg "_law_names" sNames ["_law_source_here", "_law_many"] f fd
  leads : ∃ f fd, Has K mg "_law_leads" sLeads pLeads f fd
  rows : ∃ f fd, Has K mg "_law_rows" sRows ["_law_source_here", "_law_most"] f fd
  need : ∃ f fd, Has K mg "need_rows" sNeed ["rows"] f fd
  el : ∃ f fd, Has K mg "ends_left" sEL pEL f fd
  sn : ∃ f fd, Has K mg "settled_next" sSN pSN f fd
  pr : ∃ f fd, Has K mg "places_to_no_ring" sPR ["ground"] f fd
  ri : ∃ f fd, Has K mg "ring_in" sRI ["ground"] f fd
  nr : ∃ f fd, Has K mg "_law_no_ring" sNR ["_law_rows_here"] f fd
  or : ∃ f fd, Has K mg "_law_one_ring" sOR ["_law_source_here"] f fd
  ld : ∃ f fd, Has K mg "_law_ladder" sLD ["_law_source_here"] f fd
  rg : ∃ f fd, Has K mg "_law_ring_good" sRG pRG f fd
theorem mk_ground {H2 : Hp} {l : Addr} {ps : List Addr} {rs : Rws} {CG : Addr} {R : Hp → Prop} (hl2 : H2 l = some (.lst (ps.map V.ref))) (rat : RowsAt H2 ps rs) (good : GoodRows rs) (pos : 0 < rs.length) (le14 : rs.length ≤ 14)
    {l2 : Addr} (hl2' : H2 l2 = none) {x dx : Addr} (hx : upd H2 l2 (.lst (ps.map V.ref)) x = none) (hdx : upd H2 l2 (.lst (ps.map V.ref)) dx = none) (ndx : dx ≠ x) {E : XK} (k : ∀ H4, Same H2 H4 → GrAt CG H4 x rs → R H4) :
    spGInit CG [.ref x, .ref l2] (upd (upd (upd H2 l2 (.lst (ps.map V.ref))) dx (.own x)) x (.ins CG dx [])) (fun v H' => v = .non ∧ R H') E := by
  have hx2 : H2 x = none := by
    by_cases e : x = l2
    · rw [e, upd_same] at hx; cases hx
    · rw [upd_ne e] at hx; exact hx
  have hdx2 : H2 dx = none := by
    by_cases e : dx = l2
    · rw [e, upd_same] at hdx; cases hdx
    · rw [upd_ne e] at hdx; exact hdx
  have s3 : Same H2 (upd (upd (upd H2 l2 (.lst (ps.map V.ref))) dx (.own x)) x (.ins CG dx [])) := fun b u hb => by
    rw [upd_ne (ne_of_none hb hx2), upd_ne (ne_of_none hb hdx2), upd_ne (ne_of_none hb hl2')]
    exact hb
  have hl3 : upd (upd (upd H2 l2 (.lst (ps.map V.ref))) dx (.own x)) x (.ins CG dx []) l2 = some (.lst (ps.map V.ref)) := by
    have n1 : l2 ≠ x := fun e => by rw [← e, upd_same] at hx; cases hx
    have n2 : l2 ≠ dx := fun e => by rw [← e, upd_same] at hdx; cases hdx
    rw [upd_ne n1, upd_ne n2]
    exact upd_same
  refine ⟨x, dx, l2, ps, rs, rfl, ⟨hl3, rat.mono s3, good, pos, le14⟩, upd_same, fun H4 gr fr4 => ⟨rfl, k H4 (fun b u hb => fr4 b u (s3 _ _ hb) (ne_of_none hb hx2)) gr⟩⟩
theorem ok_law {f CG : Addr} {fd : FuncData} (F : Fun K "law" "law" sLaw f fd) (B : Blt mg) (G : KitG mg) (T : KitP K mg) (N : HasN K mg) (M : GM K mg CG) (Z : HasL K mg) (hdi : mg "dict" = none) (hzi : mg "zip" = none) (knl : PySem.W.kitOne K (.type "NoneType") (.type "list") = some false) : FnOk P w K mg base CX0 8 f fd ["_law_script"] (spLaw K) := by
  obtain ⟨fO, fdO, hO⟩ := Z.cell
  obtain ⟨fL, fdL, hL⟩ := Z.source
  obtain ⟨fT, fdT, hT⟩ := Z.take
  obtain ⟨fN, fdN, hN⟩ := Z.names
  obtain ⟨fD, fdD, hD⟩ := Z.leads
  obtain ⟨fR, fdR, hR⟩ := Z.rows
  obtain ⟨fW, fdW, hW⟩ := Z.need
  obtain ⟨f1, fd1, h1⟩ := Z.el
  obtain ⟨f2, fd2, h2⟩ := Z.sn
  obtain ⟨f3, fd3, h3⟩ := Z.pr
  obtain ⟨f4, fd4, h4⟩ := Z.ri
  obtain ⟨f5, fd5, h5⟩ := Z.nr
  obtain ⟨f6, fd6, h6⟩ := Z.or
  obtain ⟨f7, fd7, h7⟩ := Z.ld
  obtain ⟨f8, fd8, h8⟩ := Z.rg
  obtain ⟨fI, fdI, C⟩ := M.cls
  have GO : FnOk P w K mg base CX0 1 fO fdO ["_law_script", "_law_k"] (spCell K) := ok_cell hO.fn B
  have GL : FnOk P w K mg base CX0 1 fL fdL ["_law_cell"] spSource := ok_source hL.fn B
  have GT : FnOk P w K mg base CX0 1 fT fdT ["_law_source_here", "_law_many"] spTake := ok_take hT.fn
  have GR : FnOk P w K mg base CX0 3 fR fdR ["_law_source_here", "_law_most"] spRows := ok_rows hR.fn B G hT hN hD
  have GI : FnOk P w K mg base CX0 6 fI fdI ["self", "rows"] (spGInit CG) := ok_ginit C B G T N hW
  have G4 : FnOk P w K mg base CX0 6 f4 fd4 ["ground"] (spRI CG) := ok_ri h4.fn B G T M h1 h2 h3
  have G5 : FnOk P w K mg base CX0 1 f5 fd5 ["_law_rows_here"] spNR := ok_nr h5.fn G hdi
  have G6 : FnOk P w K mg base CX0 3 f6 fd6 ["_law_source_here"] spMk := ok_or h6.fn B G hT hN
  have G7 : FnOk P w K mg base CX0 3 f7 fd7 ["_law_source_here"] spMk := ok_ld h7.fn B G hT hN
  have G8 : FnOk P w K mg base CX0 1 f8 fd8 pRG spRG := ok_rg h8.fn B G T hdi hzi
  refine F.okJ scLaw (fun vs H Q E z => ?_) (fun cdv A outer s H vs Q E hr z => ?_)
  · obtain ⟨a, ns, rfl, _⟩ := z
    rfl
  · obtain ⟨a, ns, rfl, hq, hlen, k⟩ := z
    have hu := hu_of hr
    have r1 : Room 1 _ := hr.mono (by decide)
    have r3 : Room 3 _ := hr.mono (by decide)
    have r6 : Room 6 _ := hr.mono (by decide)
    refine ⟨_, jss_cons (js_for PassesOwn.never rfl (ji_range1 (by rfl) B.rng (ja_cons (je_callB (call_max2 rfl) (by rfl) B.max boot_max (ja_cons je_int (ja_cons (je_callB (call_min2 rfl) (by rfl) B.min boot_min (ja_cons (je_callB call_len_seq (by rfl) B.len boot_len (ja_cons (jv 0) ja_nil)) (ja_cons je_int ja_nil))) ja_nil))) ja_nil))
        (jg_name (i := 1) scLaw.nd rfl (Or.inl rfl))
        (jss_cons (js_set (i := 2) scLaw.nd rfl (Or.inl rfl) (je_f hL GL r1 (by rfl) (ja_cons (je_f hO GO r1 (by rfl) (ja_cons (jv 0) (ja_cons (jv 1) ja_nil))) ja_nil)))
        (jss_cons (js_set (i := 3) scLaw.nd rfl (Or.inl rfl) (je_f hT GT r1 (by rfl) (ja_cons (jv 2) (ja_cons je_int ja_nil))))
        (jss_mid (js_if (jt_cmpR op_eq (jv 3) je_int (nomark _)) (jss_one (js_set (i := 4) scLaw.nd rfl (Or.inl rfl) (je_f h6 G6 r3 (by rfl) (ja_cons (jv 2) ja_nil))))
          (jss_one (js_if (jt_cmpR op_eq (jv 3) je_int (nomark _)) (jss_one (js_set (i := 4) scLaw.nd rfl (Or.inl rfl) (je_f h7 G7 r3 (by rfl) (ja_cons (jv 2) ja_nil))))
            (jss_one (js_set (i := 4) scLaw.nd rfl (Or.inl rfl) (je_f hR GR r3 (by rfl) (ja_cons (jv 2) (ja_cons (je_ix ix_list (je_lst (ja_cons je_int (ja_cons je_int (ja_cons je_int (ja_cons je_int ja_nil))))) (je_f hT GT r1 (by rfl) (ja_cons (jv 2) (ja_cons je_int ja_nil))) (fun _ _ => rfl)) ja_nil))))))))
        (jss_cons (js_set (i := 5) scLaw.nd rfl (Or.inl rfl) (je_make C.mkr GI hr (by rfl) C.ns C.bi .nil pass0 (ja_cons (je_callTy call_list_of (by rfl) G.lst boot_list (ja_cons (jv 4) ja_nil)) ja_nil)))
        (jss_cons (js_set (i := 6) scLaw.nd rfl (Or.inl rfl) (je_f h5 G5 r1 (by rfl) (ja_cons (jv 4) ja_nil)))
        (jss_one (js_for PassesOwn.never rfl (ji_range1 (by rfl) B.rng (ja_cons je_int ja_nil)) (jg_name (i := 7) scLaw.nd rfl (Or.inl rfl))
          (jss_cons (js_set (i := 8) scLaw.nd rfl (Or.inl rfl) (je_f h4 G4 r6 (by rfl) (ja_cons (jv 5) ja_nil)))
          (jss_cons (js_if (jt_cmpR op_ne (je_cmp (jc_isN (jv 8))) (jv 6) (nomark _)) (jss_one (js_ret je_bl)) jss_nil)
          (jss_cons (js_if (jw_and (jt_not (jt_val (jv 6))) (jw_and1 (jt_not (jt_val (je_f h8 G8 r1 (by rfl) (ja_cons (jv 4) (ja_cons (jv 8) ja_nil))))))).pt (jss_one (js_ret je_bl)) jss_nil)
          (jss_one (js_if (jt_val (je_callB call_isinst (by rfl) T.isi boot_isinstance (ja_cons (jv 8) (ja_cons (je_bltn (v := .ty "list") (by rfl) G.lst boot_list rfl) ja_nil))))
            (jss_one (js_expr (je_bm PySem.F.plainAttrs_list PySem.F.slot_list_append PySem.F.type_list_append mt_append (jv 8) (ja_cons je_str ja_nil)))) jss_nil)))))))))))))
      (jss_one (js_ret je_bl)), ?_⟩
    refine ⟨_, rfl, a, _, rfl, .inl hq, _, _, rfl, _, _, rfl, ?_⟩
    generalize hj : (if (if (14 : Int) < ((ns.map V.int).length : Int) then (14 : Int) else ((ns.map V.int).length : Int)) > 3 then (if (14 : Int) < ((ns.map V.int).length : Int) then (14 : Int) else ((ns.map V.int).length : Int)) else 3) = jj
    have jb := jb_of (by omega) hj
    refine ⟨jj, rfl, jb.1, jb.2, ?_⟩
    refine for_range (fun i σ H' => ∃ v1 v2 v3 v4 v5 v6 v7 v8, σ = [some (.ref a), v1, v2, v3, v4, v5, v6, v7, v8] ∧ SqL K H' a (ns.map V.int)) ⟨_, _, _, _, _, _, _, _, rfl, hq⟩ ?_ ?_
    · rintro i σ H' hi ⟨v1, v2, v3, v4, v5, v6, v7, v8, rfl, hq2⟩
      refine ⟨_, rfl, _, rfl, a, ns, _, rfl, hq2, by omega, fun c => ⟨c, rfl, fun d n sd hd => ?_⟩⟩
      refine ⟨_, rfl, d, 4, n, sd, 0, rfl, upd_same, by decide, by decide, fun r n1 t1 r0 r1 => ?_⟩
      rw [upd_upd]
      refine ⟨fun σ' H2 => ∃ (l : Addr) (ps : List Addr) (rs : Rws), σ' = [some (.ref a), some (.int (0 + (i : Int))), some (.ref d), some (.int r), some (.ref l), v5, v6, v7, v8] ∧ Same H' H2 ∧ H2 l = some (.lst (ps.map V.ref)) ∧ RowsAt H2 ps rs ∧ GoodRows rs ∧ 0 < rs.length ∧ rs.length ≤ 14, ?_, ?_⟩
      · have sm : ∀ {H2 : Hp}, Fr (upd H' d (.dK (src n1 sd t1))) d H2 → Same H' H2 := fun fr2 b u hb => fr2 b u (upd_keep hb hd) (ne_of_none hb hd)
        refine ⟨_, rfl, rfl, _, rfl, ite2 (fun _ => ?_) (fun _ => ?_)⟩
        · exact ⟨_, rfl, d, n1, sd, t1, rfl, upd_same, fun l ps rs n' t' H2 hl hl2 rat good pos le hd2 fr2 => ⟨l, ps, rs, rfl, sm fr2, hl2, rat, good, pos, le⟩⟩
        · refine ⟨_, rfl, rfl, _, rfl, ite2 (fun _ => ?_) (fun _ => ?_)⟩
          · exact ⟨_, rfl, d, n1, sd, t1, rfl, upd_same, fun l ps rs n' t' H2 hl hl2 rat good pos le hd2 fr2 => ⟨l, ps, rs, rfl, sm fr2, hl2, rat, good, pos, le⟩⟩
          · refine ⟨_, rfl, by show 4 ≤ sizeLine; decide, fun lp hlp => ?_⟩
            have ndp : lp ≠ d := fun e => by rw [e, upd_same] at hlp; cases hlp
            refine ⟨_, rfl, d, 4, n1, sd, t1, rfl, upd_keep upd_same hlp, by decide, by decide, fun r' n2 t2 r0' r1' => ?_⟩
            obtain ⟨mo, em, m0, m14⟩ := mosts r0' r1'
            refine ⟨lp, _, r', _, rfl, rfl, .of (by rw [upd_ne ndp]; exact upd_same), em, d, mo, n2, sd, t2, rfl, upd_same, m0, m14, fun l ps rs n' t' H2 hl hl2 rat good pos le hd2 fr2 => ⟨l, ps, rs, rfl, fun b u hb => ?_, hl2, rat, good, pos, Nat.le_trans le m14⟩⟩
            have hlp' : H' lp = none := by rw [upd_ne ndp] at hlp; exact hlp
            have nb : b ≠ d := ne_of_none hb hd
            refine fr2 b u ?_ nb
            rw [upd_ne nb, upd_ne (ne_of_none hb hlp'), upd_ne nb]
            exact hb
      · rintro σ' H2 ⟨l, ps, rs, rfl, sm, hl2, rat, good, pos, le14⟩
        refine ⟨_, rfl, l, _, rfl, .inl (.of hl2), fun l2 hl2' x dx hx hdx ndx => ?_⟩
        refine mk_ground hl2 rat good pos le14 hl2' hx hdx ndx fun H4 s4 gr => ?_
        refine ⟨_, rfl, l, ps, rs, rfl, ⟨s4 _ _ hl2, rat.mono s4, good, pos, le14⟩, fun H5 b s5 hb => ?_⟩
        refine ⟨2, rfl, by decide, by decide, ?_⟩
        refine for_range (fun j σ H6 => ∃ v7 v8, σ = [some (.ref a), some (.int (0 + (i : Int))), some (.ref d), some (.int r), some (.ref l), some (.ref x), some (.bl b), v7, v8] ∧ Same H5 H6) ⟨_, _, rfl, fun _ _ h => h⟩ ?_ ?_
        · rintro j σ H6 hj ⟨v7, v8, rfl, s6⟩
          refine ⟨_, rfl, x, rs, rfl, (gr.mono s5).mono s6, good, le14, fun H7 v s7 hv => ?_⟩
          rcases hv with ⟨rfl, nt⟩ | ⟨lr, rg, rfl, hlr, hlr7, ring, sub⟩
          · have hb' : b = true := hb.mpr nt
            subst hb'
            refine ⟨_, rfl, _, rfl, rfl, _, rfl, iteF_of (by decide) ?_⟩
            refine ⟨_, rfl, _, rfl, iteF ?_⟩
            refine iteF ?_
            exact ⟨_, rfl, _, _, _, _, rfl, rfl, .non, knl, _, rfl, iteF ⟨_, _, rfl, s6.trans s7⟩⟩
          · have hb' : b = false := by
              cases b with
              | false => rfl
              | true => exact absurd (hb.mp rfl rg sub ring.trap) ring.ne
            subst hb'
            have s67 := s5.trans (s6.trans s7)
            refine ⟨_, rfl, _, rfl, rfl, _, rfl, iteF_of (by rfl) ?_⟩
            refine ⟨_, rfl, _, rfl, iteT ?_⟩
            refine ⟨_, rfl, _, rfl, l, lr, ps, rs, rg, rfl, ⟨s67 _ _ (s4 _ _ hl2), (rat.mono s4).mono s67, good, pos, le14⟩, hlr7, ring, sub, fun H8 s8 => ⟨_, rfl, iteF ?_⟩⟩
            refine ⟨_, rfl, _, _, _, _, rfl, rfl, .lst (s8 _ _ hlr7), T.kll, _, rfl, iteT ?_⟩
            refine ⟨_, rfl, .inl ⟨rfl, _, .of (s8 _ _ hlr7)⟩, lr, _, _, rfl, rfl, s8 _ _ hlr7, ?_, _, _, rfl, ?_⟩
            · rw [List.length_map]
              have := len_sub ring.nd sub
              rw [List.length_map] at this
              exact small1000 (by omega)
            · refine Same.upd (s6.trans (s7.trans s8)) ?_
              exact same_none s6 hlr
        · rintro σ H6 ⟨v7, v8, rfl, s6⟩
          exact ⟨_, _, _, _, _, _, _, _, rfl, (((hq2.mono sm).mono s4).mono s5).mono s6⟩
    · rintro σ H' ⟨v1, v2, v3, v4, v5, v6, v7, v8, rfl, hq2⟩
      exact k _
end
end Rh
set_option Elab.async false
set_option linter.all false
set_option maxRecDepth 100000
set_option maxHeartbeats 4000000
namespace Rh
open PySem L2 PyProof.Rows MRing
theorem kss {K : PySem.W.Frag} : PySem.W.kitOne K (.type "str") (.type "str") = some true := by kernel_rfl
theorem ktt {K : PySem.W.Frag} : PySem.W.kitOne K (.type "tuple") (.type "tuple") = some true := by kernel_rfl
theorem kll {K : PySem.W.Frag} : PySem.W.kitOne K (.type "list") (.type "list") = some true := by kernel_rfl
theorem knl {K : PySem.W.Frag} : PySem.W.kitOne K (.type "NoneType") (.type "list") = some false := by kernel_rfl
theorem all_mk {l : PySem.W.OpenLaw} {w : World} {K : PySem.W.Frag} {h : Heap} {mg : Str → Option Value} {fa : Addr} (X : K.In h) (G : h.Ns mainGlobals mg) (hfa : mg "law" = some (.ref fa))
    {fO : Addr} {odO anO : Option Addr} {slO : Array (Option Value)} {ocO kVO dcO pmO cdO ctO : Value}
    {fL : Addr} {odL anL : Option Addr} {slL : Array (Option Value)} {ocL kVL dcL pmL cdL ctL : Value}
    {fT : Addr} {odT anT : Option Addr} {slT : Array (Option Value)} {ocT kVT dcT pmT cdT ctT : Value}
    {fN : Addr} {odN anN : Option Addr} {slN : Array (Option Value)} {ocN kVN dcN pmN cdN ctN : Value}
    {fD : Addr} {odD anD : Option Addr} {slD : Array (Option Value)} {ocD kVD dcD pmD cdD ctD : Value}
    {fR : Addr} {odR anR : Option Addr} {slR : Array (Option Value)} {ocR kVR dcR pmR cdR ctR : Value}
    {fA1 : Addr} {odA1 anA1 : Option Addr} {slA1 : Array (Option Value)} {ocA1 kVA1 dcA1 pmA1 cdA1 ctA1 : Value}
    {fA2 : Addr} {odA2 anA2 : Option Addr} {slA2 : Array (Option Value)} {ocA2 kVA2 dcA2 pmA2 cdA2 ctA2 : Value}
    {fA3 : Addr} {odA3 anA3 : Option Addr} {slA3 : Array (Option Value)} {ocA3 kVA3 dcA3 pmA3 cdA3 ctA3 : Value}
    {fA4 : Addr} {odA4 anA4 : Option Addr} {slA4 : Array (Option Value)} {ocA4 kVA4 dcA4 pmA4 cdA4 ctA4 : Value}
    {fA5 : Addr} {odA5 anA5 : Option Addr} {slA5 : Array (Option Value)} {ocA5 kVA5 dcA5 pmA5 cdA5 ctA5 : Value}
    {fA6 : Addr} {odA6 anA6 : Option Addr} {slA6 : Array (Option Value)} {ocA6 kVA6 dcA6 pmA6 cdA6 ctA6 : Value}
    {fA7 : Addr} {odA7 anA7 : Option Addr} {slA7 : Array (Option Value)} {ocA7 kVA7 dcA7 pmA7 cdA7 ctA7 : Value}
    {fA8 : Addr} {odA8 anA8 : Option Addr} {slA8 : Array (Option Value)} {ocA8 kVA8 dcA8 pmA8 cdA8 ctA8 : Value}
    {fB1 : Addr} {odB1 anB1 : Option Addr} {slB1 : Array (Option Value)} {ocB1 kVB1 dcB1 pmB1 cdB1 ctB1 : Value}
    {fB2 : Addr} {odB2 anB2 : Option Addr} {slB2 : Array (Option Value)} {ocB2 kVB2 dcB2 pmB2 cdB2 ctB2 : Value}
    {fB3 : Addr} {odB3 anB3 : Option Addr} {slB3 : Array (Option Value)} {ocB3 kVB3 dcB3 pmB3 cdB3 ctB3 : Value}
    {fB4 : Addr} {odB4 anB4 : Option Addr} {slB4 : Array (Option Value)} {ocB4 kVB4 dcB4 pmB4 cdB4 ctB4 : Value}
    {fC1 : Addr} {odC1 anC1 : Option Addr} {slC1 : Array (Option Value)} {ocC1 kVC1 dcC1 pmC1 cdC1 ctC1 : Value}
    {fC2 : Addr} {odC2 anC2 : Option Addr} {slC2 : Array (Option Value)} {ocC2 kVC2 dcC2 pmC2 cdC2 ctC2 : Value}
    {fC3 : Addr} {odC3 anC3 : Option Addr} {slC3 : Array (Option Value)} {ocC3 kVC3 dcC3 pmC3 cdC3 ctC3 : Value}
    {fC4 : Addr} {odC4 anC4 : Option Addr} {slC4 : Array (Option Value)} {ocC4 kVC4 dcC4 pmC4 cdC4 ctC4 : Value}
    {fLAW : Addr} {odLAW anLAW : Option Addr} {slLAW : Array (Option Value)} {ocLAW kVLAW dcLAW pmLAW cdLAW ctLAW : Value}
    {CG : Addr}
    {fCGi : Addr} {odCGi anCGi : Option Addr} {slCGi : Array (Option Value)} {ocCGi kVCGi dcCGi pmCGi cdCGi ctCGi : Value}
    {fCGM : Addr} {odCGM anCGM : Option Addr} {slCGM : Array (Option Value)} {ocCGM kVCGM dcCGM pmCGM cdCGM ctCGM : Value}
    {fCGF : Addr} {odCGF anCGF : Option Addr} {slCGF : Array (Option Value)} {ocCGF kVCGF dcCGF pmCGF cdCGF ctCGF : Value}
    {t1 t2 t3 t4 : Tok}
    (aO : PySem.W.nsIn K mainGlobals "_law_cell_at" = some (some (.ref fO)))
    (lO : K.lookup fO = some ⟨ocO, odO, .func (PySem.W.fnOf "_law_cell_at" "_law_cell_at" (defArgs sCell) (defBody sCell) (defScope sCell) .none kVO dcO pmO anO cdO ctO), slO⟩)
    (cO : PySem.W.codeIn K cdO "_law_cell_at" = true)
    (kO : PySem.W.keepIn K (.ref fO) = true)
    (aL : PySem.W.nsIn K mainGlobals "_law_source" = some (some (.ref fL)))
    (lL : K.lookup fL = some ⟨ocL, odL, .func (PySem.W.fnOf "_law_source" "_law_source" (defArgs sSource) (defBody sSource) (defScope sSource) .none kVL dcL pmL anL cdL ctL), slL⟩)
    (cL : PySem.W.codeIn K cdL "_law_source" = true)
    (kL : PySem.W.keepIn K (.ref fL) = true)
    (aT : PySem.W.nsIn K mainGlobals "_law_take" = some (some (.ref fT)))
    (lT : K.lookup fT = some ⟨ocT, odT, .func (PySem.W.fnOf "_law_take" "_law_take" (defArgs sTake) (defBody sTake) (defScope sTake) .none kVT dcT pmT anT cdT ctT), slT⟩)
    (cT : PySem.W.codeIn K cdT "_law_take" = true)
    (kT : PySem.W.keepIn K (.ref fT) = true)
    (aN : PySem.W.nsIn K mainGlobals "_law_names" = some (some (.ref fN)))
    (lN : K.lookup fN = some ⟨ocN, odN, .func (PySem.W.fnOf "_law_names" "_law_names" (defArgs sNames) (defBody sNames) (defScope sNames) .none kVN dcN pmN anN cdN ctN), slN⟩)
    (cN : PySem.W.codeIn K cdN "_law_names" = true)
    (kN : PySem.W.keepIn K (.ref fN) = true)
    (aD : PySem.W.nsIn K mainGlobals "_law_leads" = some (some (.ref fD)))
    (lD : K.lookup fD = some ⟨ocD, odD, .func (PySem.W.fnOf "_law_leads" "_law_leads" (defArgs sLeads) (defBody sLeads) (defScope sLeads) .none kVD dcD pmD anD cdD ctD), slD⟩)
    (cD : PySem.W.codeIn K cdD "_law_leads" = true)
    (kD : PySem.W.keepIn K (.ref fD) = true)
    (aR : PySem.W.nsIn K mainGlobals "_law_rows" = some (some (.ref fR)))
    (lR : K.lookup fR = some ⟨ocR, odR, .func (PySem.W.fnOf "_law_rows" "_law_rows" (defArgs sRows) (defBody sRows) (defScope sRows) .none kVR dcR pmR anR cdR ctR), slR⟩)
    (cR : PySem.W.codeIn K cdR "_law_rows" = true)
    (kR : PySem.W.keepIn K (.ref fR) = true)
    (aA1 : PySem.W.nsIn K mainGlobals "is_name" = some (some (.ref fA1)))
    (lA1 : K.lookup fA1 = some ⟨ocA1, odA1, .func (PySem.W.fnOf "is_name" "is_name" (defArgs sName) (defBody sName) (defScope sName) .none kVA1 dcA1 pmA1 anA1 cdA1 ctA1), slA1⟩)
    (cA1 : PySem.W.codeIn K cdA1 "is_name" = true)
    (kA1 : PySem.W.keepIn K (.ref fA1) = true)
    (aA2 : PySem.W.nsIn K mainGlobals "is_tuple_of_names" = some (some (.ref fA2)))
    (lA2 : K.lookup fA2 = some ⟨ocA2, odA2, .func (PySem.W.fnOf "is_tuple_of_names" "is_tuple_of_names" (defArgs sTupN) (defBody sTupN) (defScope sTupN) .none kVA2 dcA2 pmA2 anA2 cdA2 ctA2), slA2⟩)
    (cA2 : PySem.W.codeIn K cdA2 "is_tuple_of_names" = true)
    (kA2 : PySem.W.keepIn K (.ref fA2) = true)
    (aA3 : PySem.W.nsIn K mainGlobals "is_row" = some (some (.ref fA3)))
    (lA3 : K.lookup fA3 = some ⟨ocA3, odA3, .func (PySem.W.fnOf "is_row" "is_row" (defArgs sIsRow) (defBody sIsRow) (defScope sIsRow) .none kVA3 dcA3 pmA3 anA3 cdA3 ctA3), slA3⟩)
    (cA3 : PySem.W.codeIn K cdA3 "is_row" = true)
    (kA3 : PySem.W.keepIn K (.ref fA3) = true)
    (aA4 : PySem.W.nsIn K mainGlobals "need_form" = some (some (.ref fA4)))
    (lA4 : K.lookup fA4 = some ⟨ocA4, odA4, .func (PySem.W.fnOf "need_form" "need_form" (defArgs sForm) (defBody sForm) (defScope sForm) .none kVA4 dcA4 pmA4 anA4 cdA4 ctA4), slA4⟩)
    (cA4 : PySem.W.codeIn K cdA4 "need_form" = true)
    (kA4 : PySem.W.keepIn K (.ref fA4) = true)
    (aA5 : PySem.W.nsIn K mainGlobals "need_own_names" = some (some (.ref fA5)))
    (lA5 : K.lookup fA5 = some ⟨ocA5, odA5, .func (PySem.W.fnOf "need_own_names" "need_own_names" (defArgs sOwn) (defBody sOwn) (defScope sOwn) .none kVA5 dcA5 pmA5 anA5 cdA5 ctA5), slA5⟩)
    (cA5 : PySem.W.codeIn K cdA5 "need_own_names" = true)
    (kA5 : PySem.W.keepIn K (.ref fA5) = true)
    (aA6 : PySem.W.nsIn K mainGlobals "need_ends" = some (some (.ref fA6)))
    (lA6 : K.lookup fA6 = some ⟨ocA6, odA6, .func (PySem.W.fnOf "need_ends" "need_ends" (defArgs sEnds) (defBody sEnds) (defScope sEnds) .none kVA6 dcA6 pmA6 anA6 cdA6 ctA6), slA6⟩)
    (cA6 : PySem.W.codeIn K cdA6 "need_ends" = true)
    (kA6 : PySem.W.keepIn K (.ref fA6) = true)
    (aA7 : PySem.W.nsIn K mainGlobals "need_few_roads" = some (some (.ref fA7)))
    (lA7 : K.lookup fA7 = some ⟨ocA7, odA7, .func (PySem.W.fnOf "need_few_roads" "need_few_roads" (defArgs sFew) (defBody sFew) (defScope sFew) .none kVA7 dcA7 pmA7 anA7 cdA7 ctA7), slA7⟩)
    (cA7 : PySem.W.codeIn K cdA7 "need_few_roads" = true)
    (kA7 : PySem.W.keepIn K (.ref fA7) = true)
    (aA8 : PySem.W.nsIn K mainGlobals "need_rows" = some (some (.ref fA8)))
    (lA8 : K.lookup fA8 = some ⟨ocA8, odA8, .func (PySem.W.fnOf "need_rows" "need_rows" (defArgs sNeed) (defBody sNeed) (defScope sNeed) .none kVA8 dcA8 pmA8 anA8 cdA8 ctA8), slA8⟩)
    (cA8 : PySem.W.codeIn K cdA8 "need_rows" = true)
    (kA8 : PySem.W.keepIn K (.ref fA8) = true)
    (aB1 : PySem.W.nsIn K mainGlobals "ends_left" = some (some (.ref fB1)))
    (lB1 : K.lookup fB1 = some ⟨ocB1, odB1, .func (PySem.W.fnOf "ends_left" "ends_left" (defArgs sEL) (defBody sEL) (defScope sEL) .none kVB1 dcB1 pmB1 anB1 cdB1 ctB1), slB1⟩)
    (cB1 : PySem.W.codeIn K cdB1 "ends_left" = true)
    (kB1 : PySem.W.keepIn K (.ref fB1) = true)
    (aB2 : PySem.W.nsIn K mainGlobals "settled_next" = some (some (.ref fB2)))
    (lB2 : K.lookup fB2 = some ⟨ocB2, odB2, .func (PySem.W.fnOf "settled_next" "settled_next" (defArgs sSN) (defBody sSN) (defScope sSN) .none kVB2 dcB2 pmB2 anB2 cdB2 ctB2), slB2⟩)
    (cB2 : PySem.W.codeIn K cdB2 "settled_next" = true)
    (kB2 : PySem.W.keepIn K (.ref fB2) = true)
    (aB3 : PySem.W.nsIn K mainGlobals "places_to_no_ring" = some (some (.ref fB3)))
    (lB3 : K.lookup fB3 = some ⟨ocB3, odB3, .func (PySem.W.fnOf "places_to_no_ring" "places_to_no_ring" (defArgs sPR) (defBody sPR) (defScope sPR) .none kVB3 dcB3 pmB3 anB3 cdB3 ctB3), slB3⟩)
    (cB3 : PySem.W.codeIn K cdB3 "places_to_no_ring" = true)
    (kB3 : PySem.W.keepIn K (.ref fB3) = true)
    (aB4 : PySem.W.nsIn K mainGlobals "ring_in" = some (some (.ref fB4)))
    (lB4 : K.lookup fB4 = some ⟨ocB4, odB4, .func (PySem.W.fnOf "ring_in" "ring_in" (defArgs sRI) (defBody sRI) (defScope sRI) .none kVB4 dcB4 pmB4 anB4 cdB4 ctB4), slB4⟩)
    (cB4 : PySem.W.codeIn K cdB4 "ring_in" = true)
    (kB4 : PySem.W.keepIn K (.ref fB4) = true)
    (aC1 : PySem.W.nsIn K mainGlobals "_law_no_ring" = some (some (.ref fC1)))
    (lC1 : K.lookup fC1 = some ⟨ocC1, odC1, .func (PySem.W.fnOf "_law_no_ring" "_law_no_ring" (defArgs sNR) (defBody sNR) (defScope sNR) .none kVC1 dcC1 pmC1 anC1 cdC1 ctC1), slC1⟩)
    (cC1 : PySem.W.codeIn K cdC1 "_law_no_ring" = true)
    (kC1 : PySem.W.keepIn K (.ref fC1) = true)
    (aC2 : PySem.W.nsIn K mainGlobals "_law_one_ring" = some (some (.ref fC2)))
    (lC2 : K.lookup fC2 = some ⟨ocC2, odC2, .func (PySem.W.fnOf "_law_one_ring" "_law_one_ring" (defArgs sOR) (defBody sOR) (defScope sOR) .none kVC2 dcC2 pmC2 anC2 cdC2 ctC2), slC2⟩)
    (cC2 : PySem.W.codeIn K cdC2 "_law_one_ring" = true)
    (kC2 : PySem.W.keepIn K (.ref fC2) = true)
    (aC3 : PySem.W.nsIn K mainGlobals "_law_ladder" = some (some (.ref fC3)))
    (lC3 : K.lookup fC3 = some ⟨ocC3, odC3, .func (PySem.W.fnOf "_law_ladder" "_law_ladder" (defArgs sLD) (defBody sLD) (defScope sLD) .none kVC3 dcC3 pmC3 anC3 cdC3 ctC3), slC3⟩)
    (cC3 : PySem.W.codeIn K cdC3 "_law_ladder" = true)
    (kC3 : PySem.W.keepIn K (.ref fC3) = true)
    (aC4 : PySem.W.nsIn K mainGlobals "_law_ring_good" = some (some (.ref fC4)))
    (lC4 : K.lookup fC4 = some ⟨ocC4, odC4, .func (PySem.W.fnOf "_law_ring_good" "_law_ring_good" (defArgs sRG) (defBody sRG) (defScope sRG) .none kVC4 dcC4 pmC4 anC4 cdC4 ctC4), slC4⟩)
    (cC4 : PySem.W.codeIn K cdC4 "_law_ring_good" = true)
    (kC4 : PySem.W.keepIn K (.ref fC4) = true)
    (aLAW : PySem.W.nsIn K mainGlobals "law" = some (some (.ref fLAW)))
    (lLAW : K.lookup fLAW = some ⟨ocLAW, odLAW, .func (PySem.W.fnOf "law" "law" (defArgs sLaw) (defBody sLaw) (defScope sLaw) .none kVLAW dcLAW pmLAW anLAW cdLAW ctLAW), slLAW⟩)
    (cLAW : PySem.W.codeIn K cdLAW "law" = true)
    (kLAW : PySem.W.keepIn K (.ref fLAW) = true)
    (nCG : PySem.W.nsIn K mainGlobals "Ground" = some (some (.ref CG)))
    (pgCG : PySem.W.plainGet K CG Str.empty = true)
    (hdCG : PySem.W.hasDictIn K CG = true)
    (poCG : PySem.W.plainOver K CG = true)
    (saCG : PySem.W.findIn K (.ref CG) "__setattr__" = some (some (.builtin "object.__setattr__")))
    (mkCG : PySem.W.makesIn K CG = true)
    (inCG : PySem.W.findIn K (.ref CG) "__init__" = some (some (.ref fCGi)))
    (fiCG : PySem.W.isFn K (.ref fCGi) = true)
    (kcCG : PySem.W.keepIn K (.ref CG) = true)
    (noCG : PySem.W.findIn K (.ref CG) "order" = some none)
    (nrCG : PySem.W.findIn K (.ref CG) "roads" = some none)
    (lCGi : K.lookup fCGi = some ⟨ocCGi, odCGi, .func (PySem.W.fnOf "__init__" "Ground.__init__" (defArgs sGInit) (defBody sGInit) (defScope sGInit) .none kVCGi dcCGi pmCGi anCGi cdCGi ctCGi), slCGi⟩)
    (cCGi : PySem.W.codeIn K cdCGi "Ground.__init__" = true)
    (kCGi : PySem.W.keepIn K (.ref fCGi) = true)
    (atCGM : PySem.W.findIn K (.ref CG) "names" = some (some (.ref fCGM)))
    (fnCGM : PySem.W.isFn K (.ref fCGM) = true)
    (lCGM : K.lookup fCGM = some ⟨ocCGM, odCGM, .func (PySem.W.fnOf "names" "Ground.names" (defArgs sGNames) (defBody sGNames) (defScope sGNames) .none kVCGM dcCGM pmCGM anCGM cdCGM ctCGM), slCGM⟩)
    (cCGM : PySem.W.codeIn K cdCGM "Ground.names" = true)
    (kCGM : PySem.W.keepIn K (.ref fCGM) = true)
    (atCGF : PySem.W.findIn K (.ref CG) "roads_from" = some (some (.ref fCGF)))
    (fnCGF : PySem.W.isFn K (.ref fCGF) = true)
    (lCGF : K.lookup fCGF = some ⟨ocCGF, odCGF, .func (PySem.W.fnOf "roads_from" "Ground.roads_from" (defArgs sGFrom) (defBody sGFrom) (defScope sGFrom) .none kVCGF dcCGF pmCGF anCGF cdCGF ctCGF), slCGF⟩)
    (cCGF : PySem.W.codeIn K cdCGF "Ground.roads_from" = true)
    (kCGF : PySem.W.keepIn K (.ref fCGF) = true)
    (zlen : PySem.W.nsIn K mainGlobals "len" = some none)
    (zmax : PySem.W.nsIn K mainGlobals "max" = some none)
    (zmin : PySem.W.nsIn K mainGlobals "min" = some none)
    (zint : PySem.W.nsIn K mainGlobals "int" = some none)
    (zrange : PySem.W.nsIn K mainGlobals "range" = some none)
    (zisinstance : PySem.W.nsIn K mainGlobals "isinstance" = some none)
    (zstr : PySem.W.nsIn K mainGlobals "str" = some none)
    (zall : PySem.W.nsIn K mainGlobals "all" = some none)
    (zenumerate : PySem.W.nsIn K mainGlobals "enumerate" = some none)
    (zsum : PySem.W.nsIn K mainGlobals "sum" = some none)
    (zsorted : PySem.W.nsIn K mainGlobals "sorted" = some none)
    (zlist : PySem.W.nsIn K mainGlobals "list" = some none)
    (zreversed : PySem.W.nsIn K mainGlobals "reversed" = some none)
    (zset : PySem.W.nsIn K mainGlobals "set" = some none)
    (ztuple : PySem.W.nsIn K mainGlobals "tuple" = some none)
    (zdict : PySem.W.nsIn K mainGlobals "dict" = some none)
    (zzip : PySem.W.nsIn K mainGlobals "zip" = some none)
    (m1 : PySem.W.nsIn K mainGlobals "LETTERS" = some (some (.str "abcdefghijklmnopqrstuvwxyz" t1)))
    (m2 : PySem.W.nsIn K mainGlobals "LONGEST_NAME" = some (some (.int 8 t2)))
    (m3 : PySem.W.nsIn K mainGlobals "MOST_PLACES" = some (some (.int 14 t3)))
    (m4 : PySem.W.nsIn K mainGlobals "MOST_ROADS" = some (some (.int 40 t4)))
    :
    ∃ fd : FuncData, (∀ (s : Shared) (v : Value), BindsTo s fd ⟨[v], []⟩ [("_law_script", v)]) ∧ ∀ base : Heap, K.In base → base.Ns mainGlobals mg → FnOk l.prog w K mg base CX0 8 fa fd ["_law_script"] (spLaw K) := by
  have e := hfa.symm.trans (PySem.W.mg_of X G aLAW)
  cases e
  have B : Blt mg := ⟨PySem.W.mg_none_of X G zlen, PySem.W.mg_none_of X G zmax, PySem.W.mg_none_of X G zmin, PySem.W.mg_none_of X G zint, PySem.W.mg_none_of X G zrange⟩
  have Gk : KitG mg := ⟨PySem.W.mg_none_of X G zsorted, PySem.W.mg_none_of X G zlist, PySem.W.mg_none_of X G zreversed, PySem.W.mg_none_of X G zset, PySem.W.mg_none_of X G ztuple⟩
  have T : KitP K mg := ⟨PySem.W.mg_none_of X G zisinstance, PySem.W.mg_none_of X G zstr, PySem.W.mg_none_of X G zall, PySem.W.mg_none_of X G zenumerate, PySem.W.mg_none_of X G zsum, ⟨_, PySem.W.mg_of X G m1⟩, ⟨_, PySem.W.mg_of X G m2⟩, ⟨_, PySem.W.mg_of X G m3⟩, ⟨_, PySem.W.mg_of X G m4⟩, kss, ktt, kll⟩
  have FO := fun_mk (st := sCell) lO cO kO
  have hO : Has K mg "_law_cell_at" sCell ["_law_script", "_law_k"] fO _ := ⟨FO, PySem.W.mg_of X G aO, FO.binds (ps := ["_law_script", "_law_k"]) fun _ _ _ _ _ _ us hl => by obtain ⟨_, _, rfl⟩ := len2 hl; rfl⟩
  have FL := fun_mk (st := sSource) lL cL kL
  have hL : Has K mg "_law_source" sSource ["_law_cell"] fL _ := ⟨FL, PySem.W.mg_of X G aL, FL.binds (ps := ["_law_cell"]) fun _ _ _ _ _ _ us hl => by obtain ⟨_, rfl⟩ := len1 hl; rfl⟩
  have FT := fun_mk (st := sTake) lT cT kT
  have hT : Has K mg "_law_take" sTake ["_law_source_here", "_law_many"] fT _ := ⟨FT, PySem.W.mg_of X G aT, FT.binds (ps := ["_law_source_here", "_law_many"]) fun _ _ _ _ _ _ us hl => by obtain ⟨_, _, rfl⟩ := len2 hl; rfl⟩
  have FN := fun_mk (st := sNames) lN cN kN
  have hN : Has K mg "_law_names" sNames ["_law_source_here", "_law_many"] fN _ := ⟨FN, PySem.W.mg_of X G aN, FN.binds (ps := ["_law_source_here", "_law_many"]) fun _ _ _ _ _ _ us hl => by obtain ⟨_, _, rfl⟩ := len2 hl; rfl⟩
  have FD := fun_mk (st := sLeads) lD cD kD
  have hD : Has K mg "_law_leads" sLeads ["_law_source_here", "_law_many", "_law_shape", "_law_low"] fD _ := ⟨FD, PySem.W.mg_of X G aD, FD.binds (ps := ["_law_source_here", "_law_many", "_law_shape", "_law_low"]) fun _ _ _ _ _ _ us hl => by obtain ⟨_, _, _, _, rfl⟩ := len4 hl; rfl⟩
  have FR := fun_mk (st := sRows) lR cR kR
  have hR : Has K mg "_law_rows" sRows ["_law_source_here", "_law_most"] fR _ := ⟨FR, PySem.W.mg_of X G aR, FR.binds (ps := ["_law_source_here", "_law_most"]) fun _ _ _ _ _ _ us hl => by obtain ⟨_, _, rfl⟩ := len2 hl; rfl⟩
  have FA1 := fun_mk (st := sName) lA1 cA1 kA1
  have hA1 : Has K mg "is_name" sName ["thing"] fA1 _ := ⟨FA1, PySem.W.mg_of X G aA1, FA1.binds (ps := ["thing"]) fun _ _ _ _ _ _ us hl => by obtain ⟨_, rfl⟩ := len1 hl; rfl⟩
  have FA2 := fun_mk (st := sTupN) lA2 cA2 kA2
  have hA2 : Has K mg "is_tuple_of_names" sTupN ["thing"] fA2 _ := ⟨FA2, PySem.W.mg_of X G aA2, FA2.binds (ps := ["thing"]) fun _ _ _ _ _ _ us hl => by obtain ⟨_, rfl⟩ := len1 hl; rfl⟩
  have FA3 := fun_mk (st := sIsRow) lA3 cA3 kA3
  have hA3 : Has K mg "is_row" sIsRow ["thing"] fA3 _ := ⟨FA3, PySem.W.mg_of X G aA3, FA3.binds (ps := ["thing"]) fun _ _ _ _ _ _ us hl => by obtain ⟨_, rfl⟩ := len1 hl; rfl⟩
  have FA4 := fun_mk (st := sForm) lA4 cA4 kA4
  have hA4 : Has K mg "need_form" sForm ["rows"] fA4 _ := ⟨FA4, PySem.W.mg_of X G aA4, FA4.binds (ps := ["rows"]) fun _ _ _ _ _ _ us hl => by obtain ⟨_, rfl⟩ := len1 hl; rfl⟩
  have FA5 := fun_mk (st := sOwn) lA5 cA5 kA5
  have hA5 : Has K mg "need_own_names" sOwn ["order"] fA5 _ := ⟨FA5, PySem.W.mg_of X G aA5, FA5.binds (ps := ["order"]) fun _ _ _ _ _ _ us hl => by obtain ⟨_, rfl⟩ := len1 hl; rfl⟩
  have FA6 := fun_mk (st := sEnds) lA6 cA6 kA6
  have hA6 : Has K mg "need_ends" sEnds ["ends", "order"] fA6 _ := ⟨FA6, PySem.W.mg_of X G aA6, FA6.binds (ps := ["ends", "order"]) fun _ _ _ _ _ _ us hl => by obtain ⟨_, _, rfl⟩ := len2 hl; rfl⟩
  have FA7 := fun_mk (st := sFew) lA7 cA7 kA7
  have hA7 : Has K mg "need_few_roads" sFew ["rows"] fA7 _ := ⟨FA7, PySem.W.mg_of X G aA7, FA7.binds (ps := ["rows"]) fun _ _ _ _ _ _ us hl => by obtain ⟨_, rfl⟩ := len1 hl; rfl⟩
  have FA8 := fun_mk (st := sNeed) lA8 cA8 kA8
  have hA8 : Has K mg "need_rows" sNeed ["rows"] fA8 _ := ⟨FA8, PySem.W.mg_of X G aA8, FA8.binds (ps := ["rows"]) fun _ _ _ _ _ _ us hl => by obtain ⟨_, rfl⟩ := len1 hl; rfl⟩
  have FB1 := fun_mk (st := sEL) lB1 cB1 kB1
  have hB1 : Has K mg "ends_left" sEL ["ground", "settled", "name"] fB1 _ := ⟨FB1, PySem.W.mg_of X G aB1, FB1.binds (ps := ["ground", "settled", "name"]) fun _ _ _ _ _ _ us hl => by obtain ⟨_, _, _, rfl⟩ := len3 hl; rfl⟩
  have FB2 := fun_mk (st := sSN) lB2 cB2 kB2
  have hB2 : Has K mg "settled_next" sSN ["ground", "settled"] fB2 _ := ⟨FB2, PySem.W.mg_of X G aB2, FB2.binds (ps := ["ground", "settled"]) fun _ _ _ _ _ _ us hl => by obtain ⟨_, _, rfl⟩ := len2 hl; rfl⟩
  have FB3 := fun_mk (st := sPR) lB3 cB3 kB3
  have hB3 : Has K mg "places_to_no_ring" sPR ["ground"] fB3 _ := ⟨FB3, PySem.W.mg_of X G aB3, FB3.binds (ps := ["ground"]) fun _ _ _ _ _ _ us hl => by obtain ⟨_, rfl⟩ := len1 hl; rfl⟩
  have FB4 := fun_mk (st := sRI) lB4 cB4 kB4
  have hB4 : Has K mg "ring_in" sRI ["ground"] fB4 _ := ⟨FB4, PySem.W.mg_of X G aB4, FB4.binds (ps := ["ground"]) fun _ _ _ _ _ _ us hl => by obtain ⟨_, rfl⟩ := len1 hl; rfl⟩
  have FC1 := fun_mk (st := sNR) lC1 cC1 kC1
  have hC1 : Has K mg "_law_no_ring" sNR ["_law_rows_here"] fC1 _ := ⟨FC1, PySem.W.mg_of X G aC1, FC1.binds (ps := ["_law_rows_here"]) fun _ _ _ _ _ _ us hl => by obtain ⟨_, rfl⟩ := len1 hl; rfl⟩
  have FC2 := fun_mk (st := sOR) lC2 cC2 kC2
  have hC2 : Has K mg "_law_one_ring" sOR ["_law_source_here"] fC2 _ := ⟨FC2, PySem.W.mg_of X G aC2, FC2.binds (ps := ["_law_source_here"]) fun _ _ _ _ _ _ us hl => by obtain ⟨_, rfl⟩ := len1 hl; rfl⟩
  have FC3 := fun_mk (st := sLD) lC3 cC3 kC3
  have hC3 : Has K mg "_law_ladder" sLD ["_law_source_here"] fC3 _ := ⟨FC3, PySem.W.mg_of X G aC3, FC3.binds (ps := ["_law_source_here"]) fun _ _ _ _ _ _ us hl => by obtain ⟨_, rfl⟩ := len1 hl; rfl⟩
  have FC4 := fun_mk (st := sRG) lC4 cC4 kC4
  have hC4 : Has K mg "_law_ring_good" sRG ["_law_rows_here", "_law_ring"] fC4 _ := ⟨FC4, PySem.W.mg_of X G aC4, FC4.binds (ps := ["_law_rows_here", "_law_ring"]) fun _ _ _ _ _ _ us hl => by obtain ⟨_, _, rfl⟩ := len2 hl; rfl⟩
  have FLAW := fun_mk (st := sLaw) lLAW cLAW kLAW
  have FiCG := fun_mk (st := sGInit) lCGi cCGi kCGi
  have clCG : ClG K mg CG fCGi _ := ⟨⟨pgCG, hdCG, poCG, saCG⟩, ⟨mkCG, inCG, fiCG, kcCG⟩, PySem.W.mg_of X G nCG, noCG, nrCG, FiCG, FiCG.binds (ps := ["self", "rows"]) fun _ _ _ _ _ _ us hl => by obtain ⟨_, _, rfl⟩ := len2 hl; rfl⟩
  have FCGM := fun_mk (st := sGNames) lCGM cCGM kCGM
  have mCGM : Mth K CG "names" "Ground.names" sGNames ["self"] fCGM _ := ⟨FCGM, ⟨atCGM, fnCGM, kCGM⟩, FCGM.binds (ps := ["self"]) fun _ _ _ _ _ _ us hl => by obtain ⟨_, rfl⟩ := len1 hl; rfl⟩
  have FCGF := fun_mk (st := sGFrom) lCGF cCGF kCGF
  have mCGF : Mth K CG "roads_from" "Ground.roads_from" sGFrom ["self", "name"] fCGF _ := ⟨FCGF, ⟨atCGF, fnCGF, kCGF⟩, FCGF.binds (ps := ["self", "name"]) fun _ _ _ _ _ _ us hl => by obtain ⟨_, _, rfl⟩ := len2 hl; rfl⟩
  have Nn : HasN K mg := ⟨⟨_, _, hA1⟩, ⟨_, _, hA2⟩, ⟨_, _, hA3⟩, ⟨_, _, hA4⟩, ⟨_, _, hA5⟩, ⟨_, _, hA6⟩, ⟨_, _, hA7⟩⟩
  have M : GM K mg CG := ⟨⟨_, _, clCG⟩, ⟨_, _, mCGM⟩, ⟨_, _, mCGF⟩, ⟨_, _, hA1⟩⟩
  have Z : HasL K mg := ⟨⟨_, _, hO⟩, ⟨_, _, hL⟩, ⟨_, _, hT⟩, ⟨_, _, hN⟩, ⟨_, _, hD⟩, ⟨_, _, hR⟩, ⟨_, _, hA8⟩, ⟨_, _, hB1⟩, ⟨_, _, hB2⟩, ⟨_, _, hB3⟩, ⟨_, _, hB4⟩, ⟨_, _, hC1⟩, ⟨_, _, hC2⟩, ⟨_, _, hC3⟩, ⟨_, _, hC4⟩⟩
  exact ⟨PySem.W.fnOf "law" "law" (defArgs sLaw) (defBody sLaw) (defScope sLaw) .none kVLAW dcLAW pmLAW anLAW cdLAW ctLAW, fun s v => .of_eq rfl, fun base _ _ => ok_law FLAW B Gk T Nn M Z (PySem.W.mg_none_of X G zdict) (PySem.W.mg_none_of X G zzip) knl⟩
theorem walk {l : PySem.W.OpenLaw} {q : Program} {loose : List Str} {XP : (Str → Option Value) → Heap → Prop} {YP : World → Heap → Prop} {d : DefRec} {K : Params → PySem.W.Frag} (hn : l.most = some 63) (hdf : d.params.defaults = [])
    (hY : ∀ (w : World) (h : Heap), YP w h → (K w.params).In h)
    (F : ∀ (w : World) (mg : Str → Option Value) (fa : Addr) (h : Heap), (K w.params).In h → h.Ns mainGlobals mg → mg d.name = some (.ref fa) →
      ∃ fd : FuncData, (∀ (s : Shared) (u : Value), BindsTo s fd ⟨[u], []⟩ [("_law_script", u)]) ∧ ∀ base : Heap, (K w.params).In base → base.Ns mainGlobals mg → FnOk l.prog w (K w.params) mg base CX0 8 fa fd ["_law_script"] (spLaw (K w.params))) :
    PySem.W.WalkO q loose XP YP l.row.toRowW d [] (fun f vs => PySem.call f vs) :=
  L2.walk_of (n := 63) (k := 8) (x := "_law_script") (CX := fun _ => CX0) (sp := fun w => spLaw (K w.params)) hn (by decide) hdf ⟨rfl, by decide, by decide, rfl⟩ hY F (fun _ _ a ns hl _ hS => ⟨a, ns, rfl, hS, hl, fun _ => rfl⟩) fun _ _ _ _ _ z => z
end Rh
open PySem PySem.W PyProof.Rows
def PySem.W.Fast.tw6840617020988945673 : Unit := ()
def PySem.W.Fast.tw861502493610598483 : Unit := ()
def PySem.W.Fast.tw3187600833561265495 : Unit := ()
def PySem.W.Fast.tw7774113678449685934 : Unit := ()
def PySem.W.Fast.tw12885910862806402359 : Unit := ()
def PySem.W.Fast.tw5472014076119043557 : Unit := ()
def PySem.W.Fast.tw55536753830339475 : Unit := ()
def PySem.W.Fast.tw1883925188791702583 : Unit := ()
def PySem.W.Fast.tw13485263441057248554 : Unit := ()
def PySem.W.Fast.tw13913613514976480042 : Unit := ()
def PySem.W.Fast.tw12848530379965262573 : Unit := ()
def PySem.W.Fast.tw12103309309050226592 : Unit := ()
def PySem.W.Fast.tw17318462890700432884 : Unit := ()
def PySem.W.Fast.tw13462424878891718212 : Unit := ()
def PySem.W.Fast.tw12200699767478067731 : Unit := ()
def PySem.W.Fast.tw10879749546641988924 : Unit := ()
def PySem.W.Fast.tw12770481643036789091 : Unit := ()
def PySem.W.Fast.tw15254633091992210921 : Unit := ()
def PySem.W.Fast.tw3432194006399707252 : Unit := ()
def PySem.W.Fast.tw10167646349310259628 : Unit := ()
def PySem.W.Fast.tw9461873434466728008 : Unit := ()
def PySem.W.Fast.tw140236481695663071 : Unit := ()
def PySem.W.Fast.tw11384182702204212275 : Unit := ()
def PySem.W.Fast.tw9689729476882780088 : Unit := ()
def PySem.W.Fast.tw16723463757517087524 : Unit := ()
def PySem.W.Fast.tw4171853373547519906 : Unit := ()
def PySem.W.Fast.tw12431713363859531893 : Unit := ()
def PySem.W.Fast.tw11373181179767321252 : Unit := ()
def PySem.W.Fast.tw10624116801336726872 : Unit := ()
def PySem.W.Fast.tw15621415185263527259 : Unit := ()
def PySem.W.Fast.tw6522051377940421278 : Unit := ()
def PySem.W.Fast.tw3945831679567021610 : Unit := ()
def PySem.W.Fast.tw8047209995159408440 : Unit := ()
def PySem.W.Fast.tw13034982811429478159 : Unit := ()
def PySem.W.Fast.tw140001813534094272 : Unit := ()
def PySem.W.Fast.tw12954591660760965231 : Unit := ()
def PySem.W.Fast.tw6148498323302512570 : Unit := ()
def PySem.W.Fast.tw16822532161544500889 : Unit := ()
def PySem.W.Fast.tw772564365185477556 : Unit := ()
def PySem.W.Fast.tw3270257207059953099 : Unit := ()
def PySem.W.Fast.tw4436474186459923750 : Unit := ()
def PySem.W.Fast.tw10510056951384868246 : Unit := ()
def PySem.W.Fast.tw7164969610272591079 : Unit := ()
def PySem.W.Fast.tw5622701340561072331 : Unit := ()
def PySem.W.Fast.tw4734895289157585001 : Unit := ()
def PySem.W.Fast.tw6858818405166986180 : Unit := ()
def PySem.W.Fast.tw2261719852989239553 : Unit := ()
def PySem.W.Fast.tw4562827626845409882 : Unit := ()
def PySem.W.Fast.tw7322748291113730364 : Unit := ()
def PySem.W.Fast.tw12772213712371865176 : Unit := ()
def PySem.W.Fast.tw14689541978594310382 : Unit := ()
def PySem.W.Fast.tw7480016910919988345 : Unit := ()
def PySem.W.Fast.tw3300257896294614128 : Unit := ()
def PySem.W.Fast.tw12727641955093265886 : Unit := ()
def PySem.W.Fast.tw15539815450414544023 : Unit := ()
def PySem.W.Fast.tw2135409205425526673 : Unit := ()
def PySem.W.Fast.tw15685335758407661847 : Unit := ()
def PySem.W.Fast.tw17963105932079019327 : Unit := ()
def PySem.W.Fast.tw2107523057676978006 : Unit := ()
def PySem.W.Fast.tw16919654943277366748 : Unit := ()
def PySem.W.Fast.tw17292613610259460706 : Unit := ()
def PySem.W.Fast.tw12297992134047619483 : Unit := ()
def PySem.W.Fast.tw10698057553749749337 : Unit := ()
def PySem.W.Fast.tw5217270863462422736 : Unit := ()
def PySem.W.Fast.tw10042083083395451092 : Unit := ()
def PySem.W.Fast.tw10876078143196172821 : Unit := ()
def PySem.W.Fast.tw8733291241859026926 : Unit := ()
def PySem.W.Fast.tw5537553045615171315 : Unit := ()
def PySem.W.Fast.tw10295913840692754127 : Unit := ()
def PySem.W.Fast.tw5994696166404524948 : Unit := ()
def PySem.W.Fast.tw6968137755033780318 : Unit := ()
def PySem.W.Fast.tw8080008513338510535 : Unit := ()
def PySem.W.Fast.tw1840220198017710270 : Unit := ()
def PySem.W.Fast.tw15401437161963490237 : Unit := ()
def PySem.W.Fast.tw11401859456886640639 : Unit := ()
def PySem.W.Fast.tw5890639436620234070 : Unit := ()
def PySem.W.Fast.tw4804111812005502284 : Unit := ()
def PySem.W.Fast.tw2570914705882880060 : Unit := ()
def PySem.W.Fast.tw13946496683202179788 : Unit := ()
def PySem.W.Fast.tw9784134513789038367 : Unit := ()
def PySem.W.Fast.tw13769103115541136327 : Unit := ()
def PySem.W.Fast.tw1972164579936704799 : Unit := ()
def PySem.W.Fast.tw1915925776726481438 : Unit := ()
def PySem.W.Fast.tw9582823730064241283 : Unit := ()
def PySem.W.Fast.tw8157277791214410489 : Unit := ()
def PySem.W.Fast.tw17214186515701724070 : Unit := ()
def PySem.W.Fast.tw12330612334027959195 : Unit := ()
def PySem.W.Fast.tw15042883488752021643 : Unit := ()
set_option maxRecDepth 100000
set_option maxHeartbeats 0
open_top hd for PySem.Challenge.rw_ringheaps_k86_rings
set_option maxRecDepth 100000 in
set_option maxHeartbeats 0 in
theorem PySem.Challenge.cw_ringheaps_k86_rings_holds : PySem.Challenge.rw_ringheaps_k86_rings.Holds := by
  refine hd ?_
  k_fill
  refine Rh.walk (l := PySem.Challenge.rw_ringheaps_k86_rings) rfl rfl (fun w h Y => PySem.W.kIn_of Y) ?F
  case F =>
    intro w mg fa h KX G hmg
    refine' Rh.all_mk KX G hmg ?aO ?lO ?cO ?kO ?aL ?lL ?cL ?kL ?aT ?lT ?cT ?kT ?aN ?lN ?cN ?kN ?aD ?lD ?cD ?kD ?aR ?lR ?cR ?kR ?aA1 ?lA1 ?cA1 ?kA1 ?aA2 ?lA2 ?cA2 ?kA2 ?aA3 ?lA3 ?cA3 ?kA3 ?aA4 ?lA4 ?cA4 ?kA4 ?aA5 ?lA5 ?cA5 ?kA5 ?aA6 ?lA6 ?cA6 ?kA6 ?aA7 ?lA7 ?cA7 ?kA7 ?aA8 ?lA8 ?cA8 ?kA8 ?aB1 ?lB1 ?cB1 ?kB1 ?aB2 ?lB2 ?cB2 ?kB2 ?aB3 ?lB3 ?cB3 ?kB3 ?aB4 ?lB4 ?cB4 ?kB4 ?aC1 ?lC1 ?cC1 ?kC1 ?aC2 ?lC2 ?cC2 ?kC2 ?aC3 ?lC3 ?cC3 ?kC3 ?aC4 ?lC4 ?cC4 ?kC4 ?aLAW ?lLAW ?cLAW ?kLAW ?nCG ?pgCG ?hdCG ?poCG ?saCG ?mkCG ?inCG ?fiCG ?kcCG ?noCG ?nrCG ?lCGi ?cCGi ?kCGi ?atCGM ?fnCGM ?lCGM ?cCGM ?kCGM ?atCGF ?fnCGF ?lCGF ?cCGF ?kCGF ?zlen ?zmax ?zmin ?zint ?zrange ?zisinstance ?zstr ?zall ?zenumerate ?zsum ?zsorted ?zlist ?zreversed ?zset ?ztuple ?zdict ?zzip ?m1 ?m2 ?m3 ?m4
    (case aO => k_is)
    (case lO => k_is)
    (case cO => k_is)
    (case kO => k_is)
    (case aL => k_is)
    (case lL => k_is)
    (case cL => k_is)
    (case kL => k_is)
    (case aT => k_is)
    (case lT => k_is)
    (case cT => k_is)
    (case kT => k_is)
    (case aN => k_is)
    (case lN => k_is)
    (case cN => k_is)
    (case kN => k_is)
    (case aD => k_is)
    (case lD => k_is)
    (case cD => k_is)
    (case kD => k_is)
    (case aR => k_is)
    (case lR => k_is)
    (case cR => k_is)
    (case kR => k_is)
    (case aA1 => k_is)
    (case lA1 => k_is)
    (case cA1 => k_is)
    (case kA1 => k_is)
    (case aA2 => k_is)
    (case lA2 => k_is)
    (case cA2 => k_is)
    (case kA2 => k_is)
    (case aA3 => k_is)
    (case lA3 => k_is)
    (case cA3 => k_is)
    (case kA3 => k_is)
    (case aA4 => k_is)
    (case lA4 => k_is)
    (case cA4 => k_is)
    (case kA4 => k_is)
    (case aA5 => k_is)
    (case lA5 => k_is)
    (case cA5 => k_is)
    (case kA5 => k_is)
    (case aA6 => k_is)
    (case lA6 => k_is)
    (case cA6 => k_is)
    (case kA6 => k_is)
    (case aA7 => k_is)
    (case lA7 => k_is)
    (case cA7 => k_is)
    (case kA7 => k_is)
    (case aA8 => k_is)
    (case lA8 => k_is)
    (case cA8 => k_is)
    (case kA8 => k_is)
    (case aB1 => k_is)
    (case lB1 => k_is)
    (case cB1 => k_is)
    (case kB1 => k_is)
    (case aB2 => k_is)
    (case lB2 => k_is)
    (case cB2 => k_is)
    (case kB2 => k_is)
    (case aB3 => k_is)
    (case lB3 => k_is)
    (case cB3 => k_is)
    (case kB3 => k_is)
    (case aB4 => k_is)
    (case lB4 => k_is)
    (case cB4 => k_is)
    (case kB4 => k_is)
    (case aC1 => k_is)
    (case lC1 => k_is)
    (case cC1 => k_is)
    (case kC1 => k_is)
    (case aC2 => k_is)
    (case lC2 => k_is)
    (case cC2 => k_is)
    (case kC2 => k_is)
    (case aC3 => k_is)
    (case lC3 => k_is)
    (case cC3 => k_is)
    (case kC3 => k_is)
    (case aC4 => k_is)
    (case lC4 => k_is)
    (case cC4 => k_is)
    (case kC4 => k_is)
    (case aLAW => k_is)
    (case lLAW => k_is)
    (case cLAW => k_is)
    (case kLAW => k_is)
    (case nCG => k_is)
    (case pgCG => first | k_is | kernel_rfl)
    (case hdCG => first | k_is | kernel_rfl)
    (case poCG => first | k_is | kernel_rfl)
    (case saCG => first | k_is | kernel_rfl)
    (case mkCG => first | k_is | kernel_rfl)
    (case inCG => first | k_is | kernel_rfl)
    (case fiCG => first | k_is | kernel_rfl)
    (case kcCG => first | k_is | kernel_rfl)
    (case noCG => first | k_is | kernel_rfl)
    (case nrCG => first | k_is | kernel_rfl)
    (case lCGi => k_is)
    (case cCGi => k_is)
    (case kCGi => k_is)
    (case atCGM => first | k_is | kernel_rfl)
    (case fnCGM => first | k_is | kernel_rfl)
    (case lCGM => k_is)
    (case cCGM => k_is)
    (case kCGM => k_is)
    (case atCGF => first | k_is | kernel_rfl)
    (case fnCGF => first | k_is | kernel_rfl)
    (case lCGF => k_is)
    (case cCGF => k_is)
    (case kCGF => k_is)
    (case zlen => k_is)
    (case zmax => k_is)
    (case zmin => k_is)
    (case zint => k_is)
    (case zrange => k_is)
    (case zisinstance => k_is)
    (case zstr => k_is)
    (case zall => k_is)
    (case zenumerate => k_is)
    (case zsum => k_is)
    (case zsorted => k_is)
    (case zlist => k_is)
    (case zreversed => k_is)
    (case zset => k_is)
    (case ztuple => k_is)
    (case zdict => k_is)
    (case zzip => k_is)
    (case m1 => k_is)
    (case m2 => k_is)
    (case m3 => k_is)
    (case m4 => k_is)
