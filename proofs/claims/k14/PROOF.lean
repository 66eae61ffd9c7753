import PyProof.Rows.All
import Wide.All
import OpenK.AllK
import Wide.FinOn
import Lean
import PyProof.EqAt
import PyProof.EqKinds
import PyProof.TupleCall
import PySem.Challenge.RW_chairvote_k14_whole_shelves_agree
set_option Elab.async false
set_option linter.all false
set_option maxRecDepth 100000
namespace L2
open PySem PySem.Spec PyProof.Rows
abbrev Key := Sum Int Str
def keyIs : Key → Value → Bool
  | .inl k, v => Value.isInt k v
  | .inr x, v => Value.isStrOf x v
def keyH (w : World) : Key → Int
  | .inl k => hashInt k
  | .inr x => hashStr w x
theorem keyIs_shape : ∀ {k : Key} {v : Value}, keyIs k v = true → (∃ i t, k = Sum.inl i ∧ v = Value.int i t) ∨ (∃ x t, k = Sum.inr x ∧ v = Value.str x t)
  | .inl i, v, h => by
    obtain ⟨t, e⟩ := Value.isInt_shape (k := i) (v := v) h
    exact .inl ⟨i, t, rfl, e⟩
  | .inr x, v, h => by
    obtain ⟨t, e⟩ := Value.isStrOf_shape (x := x) (v := v) h
    exact .inr ⟨x, t, rfl, e⟩
theorem keyIs_int (i : Int) (t : Tok) : keyIs (.inl i) (.int i t) = true := by simp [keyIs, Value.isInt]
theorem keyIs_str (x : Str) (t : Tok) : keyIs (.inr x) (.str x t) = true := by simp [keyIs, Value.isStrOf]
theorem key_ll (a b : Int) : decide ((Sum.inl a : Key) = Sum.inl b) = (a == b) := by
  by_cases e : a = b
  · subst e; simp
  · have h : ¬ (Sum.inl a : Key) = Sum.inl b := fun q => e (Sum.inl.inj q)
    rw [decide_eq_false h]
    exact (beq_eq_false_iff_ne.mpr e).symm
theorem key_rr (a b : Str) : decide ((Sum.inr a : Key) = Sum.inr b) = decide (a = b) := by
  by_cases e : a = b
  · subst e; simp
  · have h : ¬ (Sum.inr a : Key) = Sum.inr b := fun q => e (Sum.inr.inj q)
    rw [decide_eq_false h, decide_eq_false e]
theorem key_lr (a : Int) (b : Str) : decide ((Sum.inl a : Key) = Sum.inr b) = false := decide_eq_false (fun q => nomatch q)
theorem key_rl (a : Str) (b : Int) : decide ((Sum.inr a : Key) = Sum.inl b) = false := decide_eq_false (fun q => nomatch q)
def mixKind (prog : Program) (w : World) : PySem.KeyKind prog w Key where
  is := keyIs
  hash := keyH w
  inj := fun v a b ha hb => by
    rcases keyIs_shape ha with ⟨i, t, rfl, rfl⟩ | ⟨x, t, rfl, rfl⟩
    · rcases keyIs_shape hb with ⟨j, u, rfl, e⟩ | ⟨y, u, rfl, e⟩
      · injection e with e1 _; rw [e1]
      · exact nomatch e
    · rcases keyIs_shape hb with ⟨j, u, rfl, e⟩ | ⟨y, u, rfl, e⟩
      · exact nomatch e
      · injection e with e1 _; rw [e1]
  byValue := fun k v h => by
    rcases keyIs_shape h with ⟨i, t, rfl, rfl⟩ | ⟨x, t, rfl, rfl⟩ <;> rfl
  pyHash := fun hv h => by
    rcases keyIs_shape hv with ⟨i, t, rfl, rfl⟩ | ⟨x, t, rfl, rfl⟩
    · exact wpAny_pyHash_int h
    · exact wpAny_pyHash_str h
  eqBool := fun hu hv h => by
    rcases keyIs_shape hu with ⟨i, t, rfl, rfl⟩ | ⟨x, t, rfl, rfl⟩
    · rcases keyIs_shape hv with ⟨j, u, rfl, rfl⟩ | ⟨y, u, rfl, rfl⟩
      · rw [key_ll] at h; exact wpAny_eqBool_int h
      · rw [key_lr] at h; exact SeqAt.EqAt.int_str i t y u _ _ _ _ h
    · rcases keyIs_shape hv with ⟨j, u, rfl, rfl⟩ | ⟨y, u, rfl, rfl⟩
      · rw [key_rl] at h; exact SeqAt.EqAt.str_int x t j u _ _ _ _ h
      · rw [key_rr] at h; exact wpAny_eqBool_str h
  «strs» := fun k x t v h => by
    rcases keyIs_shape h with ⟨i, u, rfl, e⟩ | ⟨y, u, rfl, e⟩
    · exact nomatch e
    · injection e with e1 _
      subst e1
      cases v <;> rfl
theorem mixKind_int (prog : Program) (w : World) (i : Int) (t : Tok) : (mixKind prog w).is (.inl i) (.int i t) = true := keyIs_int i t
theorem mixKind_str (prog : Program) (w : World) (x : Str) (t : Tok) : (mixKind prog w).is (.inr x) (.str x t) = true := keyIs_str x t
end L2
namespace L2
open PySem PySem.Spec PyProof.Rows
inductive V where
  | non | bl (b : Bool) | int (i : Int) | str (x : Str) | byt (b : Array UInt8) | flt (b : UInt64) | ref (a : Addr) | ty (n : String)
  deriving DecidableEq
def RelV : V → Value → Prop
  | .non, u => u = Value.none
  | .bl b, u => u = Value.bool b
  | .int i, u => ∃ t, u = Value.int i t
  | .str x, u => ∃ t, u = Value.str x t
  | .byt b, u => ∃ t, u = Value.bytes b t
  | .flt b, u => ∃ t, u = Value.float b t
  | .ref a, u => u = Value.ref a
  | .ty n, u => u = Value.type n
abbrev Vals : List V → List Value → Prop := Paired RelV
theorem Vals.length {xs : List V} {us : List Value} (r : Vals xs us) : xs.length = us.length := Paired.length r
theorem Vals.get : ∀ {xs : List V} {us : List Value} {i : Nat} {x : V}, Vals xs us → xs[i]? = some x → ∃ u, us[i]? = some u ∧ RelV x u
  | _, _, _, _, .nil, e => by simp at e
  | _, _, 0, _, .cons r _, e => by simp at e; subst e; exact ⟨_, rfl, r⟩
  | _, _, i + 1, x, .cons _ t, e => by
    obtain ⟨u, h1, h2⟩ := Vals.get (i := i) (x := x) t (by simpa using e)
    exact ⟨u, by simpa using h1, h2⟩
theorem Vals.set {x : V} {u : Value} (r : RelV x u) : ∀ {xs : List V} {us : List Value} (i : Nat), Vals xs us → Vals (xs.set i x) (us.set i u)
  | _, _, _, .nil => .nil
  | _, _, 0, .cons _ t => .cons r t
  | _, _, i + 1, .cons q t => .cons q (Vals.set r i t)
theorem Vals.append : ∀ {xs ys : List V} {us ws : List Value}, Vals xs us → Vals ys ws → Vals (xs ++ ys) (us ++ ws)
  | _, _, _, _, .nil, s => s
  | _, _, _, _, .cons r t, s => .cons r (Vals.append t s)
theorem Vals.take : ∀ {xs : List V} {us : List Value} (n : Nat), Vals xs us → Vals (xs.take n) (us.take n)
  | _, _, 0, _ => .nil
  | _, _, _ + 1, .nil => .nil
  | _, _, n + 1, .cons r t => .cons r (Vals.take n t)
theorem Vals.drop : ∀ {xs : List V} {us : List Value} (n : Nat), Vals xs us → Vals (xs.drop n) (us.drop n)
  | _, _, 0, r => r
  | _, _, _ + 1, .nil => .nil
  | _, _, n + 1, .cons _ t => Vals.drop n t
theorem Vals.none_of : ∀ {xs : List V} {us : List Value} {i : Nat}, Vals xs us → xs[i]? = none → us[i]? = none := fun {xs us i} r e => by
  have h1 := r.length
  have h2 : xs.length ≤ i := List.getElem?_eq_none_iff.mp e
  exact List.getElem?_eq_none_iff.mpr (by omega)
def RelO : Option V → Option Value → Prop
  | some v, some u => RelV v u
  | none, none => True
  | _, _ => False
def KV {κ : Type} : List (κ × V) → List (κ × Value) → Prop := Paired fun (p : κ × V) (q : κ × Value) => p.1 = q.1 ∧ RelV p.2 q.2
def kV : Key → V
  | .inl i => .int i
  | .inr x => .str x
inductive HO where
  | lst (xs : List V)
  | tup (xs : List V)
  | dK (kvs : List (Key × V)) | dT (kvs : List (List Key × V))
  | set (S : Int → Bool) (n : Nat)
  | ins (C dx : Addr) (fs : List (Str × V))
  | own (x : Addr)
  | xd (fs : List (Str × V))
  | met (f x : Addr)
  | rng (lo hi : Int)
  | frz (o : Obj) (u : HO)
  | tbl (ps : Array Value)
  | ext (φ : Heap → Prop)
abbrev Hp := Addr → Option HO
def upd (H : Hp) (a : Addr) (o : HO) : Hp := fun b => if b = a then some o else H b
theorem upd_same {H : Hp} {a : Addr} {o : HO} : upd H a o a = some o := by unfold upd; rw [if_pos rfl]
theorem upd_ne {H : Hp} {a b : Addr} {o : HO} (h : b ≠ a) : upd H a o b = H b := by unfold upd; rw [if_neg h]
theorem upd_upd {H : Hp} {a : Addr} {o u : HO} : upd (upd H a o) a u = upd H a u := by
  funext b; unfold upd; split <;> rfl
theorem ne_of {H : Hp} {a b : Addr} {o u : HO} (h : H a = some o) (h' : H b = some u) (d : o ≠ u) : a ≠ b := by
  intro e; subst e; rw [h] at h'; exact d (Option.some.inj h')
theorem ne_of_none {H : Hp} {a b : Addr} {o : HO} (h : H a = some o) (h' : H b = none) : a ≠ b := by
  intro e; subst e; rw [h] at h'; cases h'
section
variable (P : Program) (w : World)
def ObjOk (H : Hp) (h : Heap) (a : Addr) : HO → Prop
  | .lst xs => xs.length ≤ sizeLine ∧ ∃ (its : List Value) (n : Nat), Vals xs its ∧ h.get? a = some { cls := .type "list", data := .seq its.toArray n }
  | .tup xs => xs.length ≤ sizeLine ∧ ∃ its : List Value, Vals xs its ∧ IsTup h a its.toArray
  | .dK kvs => kvs.length ≤ sizeLine ∧ (a == sysModules) = false ∧ ∃ vs, KV kvs vs ∧ h.DictOf (mixKind P w) a vs
  | .dT kvs => kvs.length ≤ sizeLine ∧ (a == sysModules) = false ∧ ∃ xs : List (List Key × Addr × Value),
      Paired (fun (p : List Key × V) (q : List Key × Addr × Value) => p.1 = q.1 ∧ H q.2.1 = some (.tup (p.1.map kV)) ∧ RelV p.2 q.2.2) kvs xs ∧
      ∃ o es ep, h.get? a = some o ∧ o.ExactDict ∧ o.data = .dict es ep ∧ es.toList = xs.map (entryOfKey (tupleKind (mixKind P w))) ∧ (xs.map (·.1)).Nodup
  | .set S n => h.SetOf (intKind P w) a S n
  | .ins C dx fs => H dx = some (.own a) ∧ fs.length ≤ 1000 ∧ dx ≠ a ∧ h.get? a = some (PySem.W.instObj C dx) ∧
      ∃ mA, h.Ns1 dx mA ∧ (∀ f, RelO (fs.lookup f) (mA f)) ∧ PySem.Within mA (fs.map (·.1))
  | .own _ => ∃ o, h.get? a = some o
  | .xd fs => ∃ mA, h.Ns1 a mA ∧ ∀ f, RelO (fs.lookup f) (mA f)
  | .rng lo hi => ∃ t u v, h.get? a = some { cls := .type "range", data := .fields #[.int lo t, .int hi u, .int 1 v] }
  | .frz o u => h.get? a = some o ∧ ObjOk H h a u
  | .tbl ps => h.get? a = some { cls := .none, data := .fields ps }
  | .met f x => h.get? a = some (PySem.W.methodObj (.ref f) (.ref x))
  | .ext φ => φ h ∧ (∃ o, h.get? a = some o) ∧ ∀ h1 h2 : Heap, φ h1 → (∀ o, h1.get? a = some o → h2.get? a = some o) → φ h2
def HOk (H : Hp) (h : Heap) : Prop := ∀ a o, H a = some o → ObjOk P w H h a o
end
section
variable {P : Program} {w : World} {H H' : Hp} {h h' : Heap} {a : Addr} {o : HO}
theorem ObjOk.lt (x : ObjOk P w H h a o) : a < h.objs.size := by
  cases o with
  | lst xs => obtain ⟨_, _, _, _, e⟩ := x; exact Heap.lt_size e
  | tup xs => obtain ⟨_, _, _, p⟩ := x; exact p.lt
  | dK kvs => obtain ⟨_, _, _, _, o, _, _, e, _⟩ := x; exact Heap.lt_size e
  | dT kvs => obtain ⟨_, _, _, _, o, _, _, e, _⟩ := x; exact Heap.lt_size e
  | set S n => obtain ⟨o, _, _, _, e, _⟩ := x; exact Heap.lt_size e
  | ins C dx fs => obtain ⟨_, _, _, e, _⟩ := x; exact Heap.lt_size e
  | own y => obtain ⟨_, e⟩ := x; exact Heap.lt_size e
  | xd fs => obtain ⟨_, ⟨_, _, _, e, _⟩, _⟩ := x; exact Heap.lt_size e
  | rng lo hi => obtain ⟨_, _, _, e⟩ := x; exact Heap.lt_size e
  | frz ob u => obtain ⟨e, _⟩ := x; exact Heap.lt_size e
  | tbl ps => exact Heap.lt_size (show h.get? a = some _ from x)
  | met f y => exact Heap.lt_size (show h.get? a = some _ from x)
  | ext φ => obtain ⟨_, ⟨_, e⟩, _⟩ := x; exact Heap.lt_size e
theorem Paired.mapP {α β : Type} {F G : α → β → Prop} : ∀ {l₁ : List α} {l₂ : List β}, Paired F l₁ l₂ → (∀ a b, F a b → G a b) → Paired G l₁ l₂
  | _, _, .nil, _ => .nil
  | _, _, .cons r t, f => .cons (f _ _ r) (Paired.mapP t f)
theorem ObjOk.stay (x : ObjOk P w H h a o) (k : ∀ b u, (b = a ∨ H b = some (.own a)) → h.get? b = some u → h'.get? b = some u)
    (ho : ∀ b, H b = some (.own a) → H' b = some (.own a)) (ht : ∀ b xs, H b = some (.tup xs) → H' b = some (.tup xs)) : ObjOk P w H' h' a o := by
  induction o with
  | lst xs => obtain ⟨z, its, n, r, e⟩ := x; exact ⟨z, its, n, r, k _ _ (.inl rfl) e⟩
  | tup xs => obtain ⟨z, its, r, ob, e, c⟩ := x; exact ⟨z, its, r, ob, k _ _ (.inl rfl) e, c⟩
  | dK kvs => obtain ⟨z, y, vs, r, ob, es, ep, e, c⟩ := x; exact ⟨z, y, vs, r, ob, es, ep, k _ _ (.inl rfl) e, c⟩
  | dT kvs =>
    obtain ⟨z, y, xs, r, ob, es, ep, e, c⟩ := x
    exact ⟨z, y, xs, Paired.mapP r fun p q z => ⟨z.1, ht _ _ z.2.1, z.2.2⟩, ob, es, ep, k _ _ (.inl rfl) e, c⟩
  | set S n => obtain ⟨ob, es, ep, t, e, c⟩ := x; exact ⟨ob, es, ep, t, k _ _ (.inl rfl) e, c⟩
  | ins C dx fs =>
    obtain ⟨d, z, ne, e, mA, ⟨od, es, ep, e2, c⟩, r⟩ := x
    exact ⟨ho _ d, z, ne, k _ _ (.inl rfl) e, mA, ⟨od, es, ep, k _ _ (.inr d) e2, c⟩, r⟩
  | own y => obtain ⟨ob, e⟩ := x; exact ⟨ob, k _ _ (.inl rfl) e⟩
  | xd fs => obtain ⟨mA, ⟨od, es, ep, e, c⟩, r⟩ := x; exact ⟨mA, ⟨od, es, ep, k _ _ (.inl rfl) e, c⟩, r⟩
  | rng lo hi => obtain ⟨t, u, v, e⟩ := x; exact ⟨t, u, v, k _ _ (.inl rfl) e⟩
  | frz ob u ih => obtain ⟨e, q⟩ := x; exact ⟨k _ _ (.inl rfl) e, ih q⟩
  | tbl ps =>
    have e : h.get? a = some { cls := .none, data := .fields ps } := x
    show h'.get? a = some { cls := .none, data := .fields ps }
    exact k a _ (.inl rfl) e
  | met f y =>
    have e : h.get? a = some (PySem.W.methodObj (.ref f) (.ref y)) := x
    show h'.get? a = some (PySem.W.methodObj (.ref f) (.ref y))
    exact k a _ (.inl rfl) e
  | ext φ => obtain ⟨p, ⟨o, e⟩, st⟩ := x; exact ⟨st _ _ p fun o q => k _ _ (.inl rfl) q, ⟨o, k _ _ (.inl rfl) e⟩, st⟩
theorem HOk.lt (x : HOk P w H h) (e : H a = some o) : a < h.objs.size := (x a o e).lt
theorem HOk.fresh (x : HOk P w H h) (e : h.objs.size ≤ a) : H a = none := by
  cases q : H a with
  | none => rfl
  | some u => exact absurd (Nat.lt_of_lt_of_le (x.lt q) e) (Nat.lt_irrefl _)
theorem HOk.kept (x : HOk P w H h) (k : ∀ b u, h.get? b = some u → h'.get? b = some u) : HOk P w H h' := fun a o e =>
  (x a o e).stay (fun b u _ q => k b u q) (fun _ q => q) fun _ _ q => q
theorem HOk.laid (x : HOk P w H h) (k : ∀ b u, h.get? b = some u → h'.get? b = some u) (hp : h.objs.size ≤ a) (new : ObjOk P w (upd H a o) h' a o) : HOk P w (upd H a o) h' := fun b u e => by
  have hn := x.fresh hp
  by_cases hb : b = a
  · subst hb; rw [upd_same] at e; cases e; exact new
  · rw [upd_ne hb] at e
    exact (x b u e).stay (fun c v _ q => k c v q) (fun c q => by rw [upd_ne (ne_of_none q hn)]; exact q) fun c xs q => by rw [upd_ne (ne_of_none q hn)]; exact q
end
def Rd (H : Hp) (a : Addr) (u : HO) : Prop := H a = some u ∨ ∃ o, H a = some (.frz o u)
theorem Rd.of {H : Hp} {a : Addr} {u : HO} (h : H a = some u) : Rd H a u := .inl h
theorem Rd.ok {P : Program} {w : World} {H : Hp} {h : Heap} {a : Addr} {u : HO} (r : Rd H a u) (x : HOk P w H h) : ObjOk P w H h a u := by
  rcases r with r | ⟨o, r⟩
  · exact x a u r
  · obtain ⟨_, q⟩ := x a _ r
    exact q
def Mut : Option HO → Prop
  | some (.lst _) => True
  | some (.dK _) => True
  | some (.dT _) => True
  | some (.set _ _) => True
  | some (.ins _ _ _) => True
  | some (.ext _) => True
  | _ => False
section
variable {P : Program} {w : World} {H : Hp} {h h' : Heap} {x e : Addr} {o' : HO}
theorem HOk.write (ok : HOk P w H h) (mu : Mut (H x)) (he : e = x ∨ H e = some (.own x)) (k : ∀ b u, b ≠ e → h.get? b = some u → h'.get? b = some u) (heo : ∃ u, h'.get? e = some u)
    (new : ObjOk P w (upd H x o') h' x o') : HOk P w (upd H x o') h' := fun b u q => by
  have nown : ∀ c y, H c = some (.own y) → c ≠ x := fun c y r z => by subst z; rw [r] at mu; exact mu
  have ntup : ∀ c xs, H c = some (.tup xs) → c ≠ x := fun c xs r z => by subst z; rw [r] at mu; exact mu
  by_cases hb : b = x
  · subst hb; rw [upd_same] at q; cases q; exact new
  · rw [upd_ne hb] at q
    by_cases hbe : b = e
    · have q' : H b = some (.own x) := by
        rcases he with z | z
        · exact absurd (hbe.trans z) hb
        · rw [hbe]; exact z
      rw [q] at q'; cases q'
      obtain ⟨v, hv⟩ := heo
      exact ⟨v, by rw [hbe]; exact hv⟩
    · refine (ok b u q).stay (fun c v hc r => k c v ?_ r) (fun c r => by rw [upd_ne (nown c b r)]; exact r) fun c xs r => by rw [upd_ne (ntup c xs r)]; exact r
      rcases hc with rfl | hc
      · exact hbe
      · rintro rfl
        rcases he with z | z
        · exact nown c b hc z
        · rw [hc] at z; cases z; exact hb rfl
end
structure Un (fs ex : List Addr) (H H' : Hp) (h h' : Heap) : Prop where
  keep : ∀ b o, h.get? b = some o → H b = none → b ∉ fs → b ∉ ex → h'.get? b = some o
  slot : ∀ b o, h.get? b = some o → H b = none → b ∈ fs → b ∉ ex → ∃ sl, h'.get? b = some { o with slots := sl }
  free : ∀ b o, h.get? b = some o → H b = none → b ∉ ex → H' b = none
  there : ∀ b o, h.get? b = some o → b ∉ ex → ∃ o', h'.get? b = some o'
  tups : ∀ b xs, H b = some (.tup xs) → H' b = some (.tup xs)
  frzs : ∀ b o u, H b = some (.frz o u) → H' b = some (.frz o u)
  tbls : ∀ b ps, H b = some (.tbl ps) → ∃ more, H' b = some (.tbl (ps ++ more))
section
variable {fs fs' ex ex' : List Addr} {H H1 H2 : Hp} {h h1 h2 h' : Heap} {a x e : Addr} {o : HO}
theorem Un.any (u : Un fs ex H H1 h h1) {b : Addr} {ob : Obj} (q : h.get? b = some ob) (n : H b = none) (hx : b ∉ ex) : ∃ sl, h1.get? b = some { ob with slots := sl } := by
  by_cases hb : b ∈ fs
  · exact u.slot b ob q n hb hx
  · exact ⟨ob.slots, u.keep b ob q n hb hx⟩
theorem Un.trans (a : Un fs ex H H1 h h1) (b : Un fs ex H1 H2 h1 h2) : Un fs ex H H2 h h2 where
  keep := fun c ob q n hc hx => b.keep c ob (a.keep c ob q n hc hx) (a.free c ob q n hx) hc hx
  slot := fun c ob q n hc hx => by
    obtain ⟨sl, e1⟩ := a.slot c ob q n hc hx
    obtain ⟨sl', e2⟩ := b.slot c _ e1 (a.free c ob q n hx) hc hx
    exact ⟨sl', e2⟩
  free := fun c ob q n hx => by
    obtain ⟨o', e1⟩ := a.there c ob q hx
    exact b.free c o' e1 (a.free c ob q n hx) hx
  there := fun c ob q hx => by
    obtain ⟨o', e1⟩ := a.there c ob q hx
    exact b.there c o' e1 hx
  tups := fun c xs q => b.tups c xs (a.tups c xs q)
  frzs := fun c ob xs q => b.frzs c ob xs (a.frzs c ob xs q)
  tbls := fun c ps q => by
    obtain ⟨m1, e1⟩ := a.tbls c ps q
    obtain ⟨m2, e2⟩ := b.tbls c _ e1
    exact ⟨m1 ++ m2, by rw [e2, Array.append_assoc]⟩
theorem Un.kept (k : ∀ b u, h.get? b = some u → h'.get? b = some u) : Un fs ex H H h h' :=
  ⟨fun b ob q _ _ _ => k b ob q, fun b ob q _ _ _ => ⟨ob.slots, k b ob q⟩, fun _ _ _ n _ => n, fun b ob q _ => ⟨ob, k b ob q⟩, fun _ _ q => q, fun _ _ _ q => q, fun _ ps q => ⟨#[], by rw [q]; simp⟩⟩
theorem Un.refl : Un fs ex H H h h := Un.kept fun _ _ q => q
theorem Un.laid (k : ∀ b u, h.get? b = some u → h'.get? b = some u) (hp : h.objs.size ≤ a) (hn : H a = none) : Un fs ex H (upd H a o) h h' where
  keep := fun b u q _ _ _ => k b u q
  slot := fun b u q _ _ _ => ⟨u.slots, k b u q⟩
  free := fun b u q n _ => by rw [upd_ne (Nat.ne_of_lt (Nat.lt_of_lt_of_le (Heap.lt_size q) hp))]; exact n
  there := fun b u q _ => ⟨u, k b u q⟩
  tups := fun b xs q => by rw [upd_ne (ne_of_none q hn)]; exact q
  frzs := fun b u xs q => by rw [upd_ne (ne_of_none q hn)]; exact q
  tbls := fun b ps q => ⟨#[], by rw [upd_ne (ne_of_none q hn), q]; simp⟩
theorem Un.write (mu : Mut (H x)) (he : e = x ∨ H e = some (.own x)) (k : ∀ b u, b ≠ e → h.get? b = some u → h'.get? b = some u) (heo : ∃ u, h'.get? e = some u) : Un fs ex H (upd H x o) h h' := by
  have hx : ∀ b, H b = none → b ≠ x := fun b n z => by subst z; rw [n] at mu; exact mu
  have hb : ∀ b, H b = none → b ≠ e := fun b n z => by
    subst z
    rcases he with r | r
    · exact hx b n r
    · rw [n] at r; cases r
  have hm : ∀ b u, H b = some u → ¬ Mut (some u) → b ≠ x := fun b u q nm z => by subst z; rw [q] at mu; exact nm mu
  refine ⟨fun b u q n _ _ => k b u (hb b n) q, fun b u q n _ _ => ⟨u.slots, k b u (hb b n) q⟩, fun b u q n _ => by rw [upd_ne (hx b n)]; exact n, fun b u q _ => ?_,
    fun b xs q => by rw [upd_ne (hm b _ q fun z => z)]; exact q, fun b u xs q => by rw [upd_ne (hm b _ q fun z => z)]; exact q, fun b ps q => ⟨#[], by rw [upd_ne (hm b _ q fun z => z), q]; simp⟩⟩
  by_cases hbe : b = e
  · subst hbe; exact heo
  · exact ⟨u, k b u hbe q⟩
theorem Un.mono (u : Un fs ex H H1 h h1) (hs : ∀ b ∈ fs, b ∈ fs') (hx : ∀ b ∈ ex, b ∈ ex') : Un fs' ex' H H1 h h1 :=
  ⟨fun b ob q n hb he => u.keep b ob q n (fun z => hb (hs b z)) fun z => he (hx b z), fun _ _ q n _ he => u.any q n fun z => he (hx _ z), fun b ob q n he => u.free b ob q n fun z => he (hx b z), fun b ob q he => u.there b ob q fun z => he (hx b z), u.tups, u.frzs, u.tbls⟩
end
def trk (h : Heap) (H : Hp) : List Addr := (List.range h.objs.size).filter fun a => (H a).isSome
def hidT (h : Heap) (H : Hp) : Heap := PySem.W.hideAll h (trk h H)
theorem hidT_size (h : Heap) (H : Hp) : (hidT h H).objs.size = h.objs.size := PySem.W.hideAll_size _ _
theorem hidT_get {h : Heap} {H : Hp} {b : Addr} {o : Obj} (e : h.get? b = some o) (n : H b = none) : (hidT h H).get? b = some o :=
  PySem.W.hideAll_get _ e fun hm => by
    have q : (H b).isSome = true := (List.mem_filter.mp hm).2
    rw [n] at q; simp at q
theorem of_hidT {h : Heap} {H : Hp} {b : Addr} {o : Obj} (e : (hidT h H).get? b = some o) : h.get? b = some o ∧ H b = none := by
  have e' : h.get? b = some o := PySem.W.of_hideAll (trk h H) e
  refine ⟨e', ?_⟩
  cases q : H b with
  | none => rfl
  | some x =>
    have hm : b ∈ trk h H := List.mem_filter.mpr ⟨List.mem_range.mpr (Heap.lt_size e'), by simp [q]⟩
    have z : (hidT h H).get? b = none := PySem.W.hideAll_none (trk h H) hm
    rw [z] at e; cases e
def allNews (g h : Heap) (L : Addr) : List (Addr × Obj) := (List.range h.objs.size).filterMap fun a => if a = L ∨ (g.get? a).isSome = true then none else (h.get? a).map fun o => (a, o)
def rest (g h : Heap) (L d : Addr) : List (Addr × Obj) := (allNews g h L).filter fun p => decide (p.1 ≠ d)
end L2
namespace L2
open PySem PySem.Spec PyProof.Rows
structure Mod (K : PySem.W.Frag) (mg : Str → Option Value) (base : Heap) : Prop where
  kin : K.In base
  glob : base.Ns mainGlobals mg
  blt : ∃ mb, base.Ns builtinsNs mb ∧ ∀ x : Str, x ≠ "__name__" → mb x = bootBuiltins x
  nolimit : base.NoLimit
structure Cx where
  prog : Program
  w : World
  K : PySem.W.Frag
  mg : Str → Option Value
  base : Heap
  A : Around
  N : List Str
  s₀ : Shared
  H₀ : Hp
  env : Env
  outer : List Env
  stack : List Env
  ex : List Addr
  fn : Str → Bool
  calm : Bool
  pn : List (Addr × Obj)
  xe : Value → Shared → Prop
def frs (l : List Env) : List Addr := l.filterMap (·.frame)
abbrev Cx.fs (X : Cx) : List Addr := frs X.outer
def Vis (sc : Scope) (x : Str) : Prop := sc.names.lookup x = some .local ∨ sc.names.lookup x = some .cell ∨ sc.names.lookup x = some .free
def Loc (sc : Scope) (x : Str) : Prop := sc.names.lookup x = some .local ∨ sc.names.lookup x = some .cell
def Look (env : Env) (h : Heap) (m : Str → Option Value) (x : Str) (u : Value) : Prop :=
  (env.kindOf x = some .local ∧ m x = some u) ∨ ((env.kindOf x = some .cell ∨ env.kindOf x = some .free) ∧ ∃ c, env.cells.lookup x = some c ∧ h.IsCell c (some u))
structure Cx.Ok (X : Cx) : Prop where
  mod : Mod X.K X.mg X.base
  kind : X.env.scope.kind = .function
  glob : X.env.globals = mainGlobals
  blt : X.env.builtins = builtinsNs
  above : X.s₀.heap.objs.size ≤ X.env.locals
  inj : ∀ x y c, X.env.cells.lookup x = some c → X.env.cells.lookup y = some c → x = y
  has : ∀ x, (X.env.kindOf x = some .cell ∨ X.env.kindOf x = some .free) → ∃ c, X.env.cells.lookup x = some c
  cab : ∀ x c, X.fn x = true → X.env.cells.lookup x = some c → X.s₀.heap.objs.size ≤ c
  hd : X.calm = true → X.A.handled = none
  frames : X.A.frames = some X.stack
  stk : X.stack = X.outer ∨ (X.stack = X.env :: X.outer ∧ X.env.frame = some X.env.locals)
  exf : ∀ b ∈ X.ex, b ≠ X.env.locals ∧ ∀ x c, X.env.cells.lookup x = some c → c ≠ b
  bs : ∀ b o, X.base.get? b = some o → X.s₀.heap.get? b = some o ∧ X.H₀ b = none
  bsz : X.base.objs.size ≤ X.s₀.heap.objs.size
  noex : ∀ b o, X.base.get? b = some o → b ∉ X.ex
  exfs : ∀ b ∈ X.ex, b ∉ X.fs
  funs : X.s₀.heap.FunFrames X.base X.outer
  frf : ∀ b ∈ X.fs, X.H₀ b = none
structure Inv (X : Cx) (pins : List (Addr × Obj)) (σ : List (Option V)) (H : Hp) (s : Shared) : Prop where
  ok : X.Ok
  os : s.os = X.s₀.os
  bare : AllBare s.gens
  base : Un X.fs X.ex X.H₀ H X.s₀.heap s.heap
  loc : ∃ m, s.heap.Ns X.env.locals m ∧ ∀ (i : Nat) (x : Str) (v : V), X.N[i]? = some x → σ[i]? = some (some v) → Vis X.env.scope x → ∃ u, RelV v u ∧ Look X.env s.heap m x u
  cell : ∀ x c, X.env.cells.lookup x = some c → ∃ v, s.heap.IsCell c v
  free : H X.env.locals = none
  freeC : ∀ x c, X.env.cells.lookup x = some c → H c = none
  pin : ∀ p ∈ X.pn ++ pins, s.heap.get? p.1 = some p.2 ∧ H p.1 = none ∧ p.1 ≠ X.env.locals ∧ p.1 ∉ X.fs ∧ ∀ v, p.2.data ≠ .cell v
  hok : HOk X.prog X.w H s.heap
  len : σ.length = X.N.length
section
variable {X : Cx} {pins : List (Addr × Obj)} {σ : List (Option V)} {H H' : Hp} {s : Shared} {h' : Heap}
theorem Cx.Ok.nofr (ok : X.Ok) {b : Addr} {o : Obj} (e : X.base.get? b = some o) : b ∉ X.fs := fun hb => by
  have := (ok.funs.mem hb).1
  rw [e] at this; cases this
theorem Inv.bs (I : Inv X pins σ H s) : ∀ b o, X.base.get? b = some o → s.heap.get? b = some o ∧ H b = none := fun b o e =>
  ⟨I.base.keep b o (I.ok.bs b o e).1 (I.ok.bs b o e).2 (I.ok.nofr e) (I.ok.noex b o e), I.base.free b o (I.ok.bs b o e).1 (I.ok.bs b o e).2 (I.ok.noex b o e)⟩
theorem Inv.bk (I : Inv X pins σ H s) : ∀ b o, X.base.get? b = some o → s.heap.get? b = some o := fun b o e => (I.bs b o e).1
theorem Inv.mod (I : Inv X pins σ H s) : Mod X.K X.mg X.base := I.ok.mod
theorem Inv.kIn (I : Inv X pins σ H s) : X.K.In s.heap := I.ok.mod.kin.keeps I.bk
theorem Inv.nolimit (I : Inv X pins σ H s) : s.heap.NoLimit := I.ok.mod.nolimit.keeps I.bk
theorem Inv.fr (I : Inv X pins σ H s) : ∃ m, Fr X.base X.env.locals s.heap m :=
  let ⟨m, hn, _⟩ := I.loc
  ⟨m, hn, I.bk, Nat.le_trans I.ok.bsz I.ok.above⟩
theorem Inv.lt (I : Inv X pins σ H s) : X.env.locals < s.heap.objs.size := let ⟨_, hn, _⟩ := I.loc; hn.lt
theorem Inv.sz (I : Inv X pins σ H s) : X.s₀.heap.objs.size ≤ s.heap.objs.size := Nat.le_trans I.ok.above (Nat.le_of_lt I.lt)
theorem Inv.nofs (I : Inv X pins σ H s) {a : Addr} (h : s.heap.objs.size ≤ a) : a ∉ X.fs := fun hb => by
  obtain ⟨_, o, ho, _⟩ := I.ok.funs.mem hb
  exact absurd (Nat.lt_of_lt_of_le (Heap.lt_size ho) (Nat.le_trans I.sz h)) (Nat.lt_irrefl _)
theorem Inv.cne (I : Inv X pins σ H s) : ∀ x c, X.env.cells.lookup x = some c → c ≠ X.env.locals := fun x c e z => by
  obtain ⟨v, o, ho, hd⟩ := I.cell x c e
  obtain ⟨m, ⟨o', es, ep, ho', hd', _⟩, _⟩ := I.loc
  rw [z, ho'] at ho; cases ho; rw [hd'] at hd; cases hd
theorem Inv.funs (I : Inv X pins σ H s) : s.heap.FunFrames X.base X.outer := by
  have all : ∀ (l : List Env), (∀ b ∈ frs l, b ∈ X.fs) → X.s₀.heap.FunFrames X.base l → s.heap.FunFrames X.base l := by
    intro l
    induction l with
    | nil => intro _ _; trivial
    | cons env r ih =>
      intro hs hl
      obtain ⟨hk, ⟨L, o, hf, hn, ho, hd⟩, hr⟩ := hl
      have hL : L ∈ X.fs := hs L (by unfold frs; rw [List.filterMap_cons, hf]; exact List.mem_cons_self)
      obtain ⟨sl, e⟩ := I.base.slot L o ho (I.ok.frf L hL) hL fun z => I.ok.exfs L z hL
      exact ⟨hk, ⟨L, _, hf, hn, e, hd⟩, ih (fun b hb => hs b (by unfold frs; rw [List.filterMap_cons, hf]; exact List.mem_cons_of_mem _ hb)) hr⟩
  exact all X.outer (fun _ hb => hb) I.ok.funs
theorem Inv.stack (I : Inv X pins σ H s) : s.heap.FunFrames X.base X.stack := by
  rcases I.ok.stk with e | ⟨e, hf⟩
  · rw [e]; exact I.funs
  · rw [e]
    obtain ⟨m, hn, _⟩ := I.loc
    refine .cons (by rw [I.ok.kind]; decide) hf hn ?_ I.funs
    exact Heap.get?_none_of_le (Nat.le_trans I.ok.bsz I.ok.above)
theorem Inv.stkSub (I : Inv X pins σ H s) : ∀ b ∈ frs X.stack, b ∈ X.env.locals :: X.fs := fun b hb => by
  rcases I.ok.stk with e | ⟨e, hf⟩
  · rw [e] at hb; exact List.mem_cons_of_mem _ hb
  · rw [e] at hb
    unfold frs at hb
    rw [List.filterMap_cons, hf] at hb
    exact hb
theorem Inv.stkFree (I : Inv X pins σ H s) : ∀ b ∈ frs X.stack, H b = none := fun b hb => by
  rcases List.mem_cons.mp (I.stkSub b hb) with e | hb
  · rw [e]; exact I.free
  · obtain ⟨_, o, ho, _⟩ := I.ok.funs.mem hb
    exact I.base.free b o ho (I.ok.frf b hb) fun z => I.ok.exfs b z hb
theorem Inv.step {g' : Array GenState} {t' : Nat} {d' : Drawn} {ch : List Addr} (I : Inv X pins σ H s)
    (hch : ∀ b ∈ ch, (b ∈ X.ex ∨ X.s₀.heap.objs.size ≤ b) ∧ b ≠ X.env.locals ∧ (∀ x c, X.env.cells.lookup x = some c → c ≠ b) ∧ ∀ p ∈ X.pn ++ pins, p.1 ≠ b)
    (keep : ∀ b o, b ≠ X.env.locals → b ∉ X.fs → b ∉ ch → s.heap.get? b = some o → H b = none → h'.get? b = some o)
    (slot : ∀ b o, b ≠ X.env.locals → b ∈ X.fs → b ∉ ch → s.heap.get? b = some o → H b = none → ∃ sl, h'.get? b = some { o with slots := sl }) (free : ∀ b o, b ∉ ch → s.heap.get? b = some o → H b = none → H' b = none)
    (there : ∀ b o, b ∉ ch → s.heap.get? b = some o → ∃ o', h'.get? b = some o')
    (tups : ∀ b xs, H b = some (.tup xs) → H' b = some (.tup xs)) (frzs : ∀ b o u, H b = some (.frz o u) → H' b = some (.frz o u)) (tbls : ∀ b ps, H b = some (.tbl ps) → ∃ more, H' b = some (.tbl (ps ++ more)))
    (ns : ∀ m, s.heap.Ns X.env.locals m → h'.Ns X.env.locals m) (hok : HOk X.prog X.w H' h') (hg : AllBare g') :
    Inv X pins σ H' { s with heap := h', gens := g', drawn := d', toks := t' } := by
  have neL : ∀ b o, X.s₀.heap.get? b = some o → b ≠ X.env.locals := fun b o e => Nat.ne_of_lt (Nat.lt_of_lt_of_le (Heap.lt_size e) I.ok.above)
  have neC : ∀ b o, X.s₀.heap.get? b = some o → b ∉ X.ex → b ∉ ch := fun b o e hx hb => by
    rcases (hch b hb).1 with z | z
    · exact hx z
    · exact absurd (Nat.lt_of_lt_of_le (Heap.lt_size e) z) (Nat.lt_irrefl _)
  have cellK : ∀ x c, X.env.cells.lookup x = some c → ∀ v, s.heap.IsCell c v → h'.IsCell c v := fun x c e v ⟨o, ho, hd⟩ => by
    have nch : c ∉ ch := fun z => (hch c z).2.2.1 x c e rfl
    by_cases hc : c ∈ X.fs
    · obtain ⟨sl, q⟩ := slot c o (I.cne x c e) hc nch ho (I.freeC x c e)
      exact ⟨_, q, hd⟩
    · exact ⟨o, keep c o (I.cne x c e) hc nch ho (I.freeC x c e), hd⟩
  refine ⟨I.ok, I.os, hg, ⟨fun b o e n hb hx => ?_, fun b o e n hb hx => ?_, fun b o e n hx => ?_, fun b o e hx => ?_, fun b xs e => tups b xs (I.base.tups b xs e), fun b o xs e => frzs b o xs (I.base.frzs b o xs e), fun b ps e => ?_⟩, ?_, fun x c e => ?_, ?_, fun x c e => ?_, fun p hp => ?_, hok, I.len⟩
  · exact keep b o (neL b o e) hb (neC b o e hx) (I.base.keep b o e n hb hx) (I.base.free b o e n hx)
  · obtain ⟨sl, e1⟩ := I.base.slot b o e n hb hx
    obtain ⟨sl', e2⟩ := slot b _ (neL b o e) hb (neC b o e hx) e1 (I.base.free b o e n hx)
    exact ⟨sl', e2⟩
  · obtain ⟨o', e1⟩ := I.base.there b o e hx
    exact free b o' (neC b o e hx) e1 (I.base.free b o e n hx)
  · obtain ⟨o', e1⟩ := I.base.there b o e hx
    exact there b o' (neC b o e hx) e1
  · obtain ⟨m1, e1⟩ := I.base.tbls b ps e
    obtain ⟨m2, e2⟩ := tbls b _ e1
    exact ⟨m1 ++ m2, by rw [e2, Array.append_assoc]⟩
  · obtain ⟨m, hn, hl⟩ := I.loc
    refine ⟨m, ns m hn, fun i x v e1 e2 e3 => ?_⟩
    obtain ⟨u, r, l⟩ := hl i x v e1 e2 e3
    refine ⟨u, r, ?_⟩
    rcases l with l | ⟨k, c, e, z⟩
    · exact .inl l
    · exact .inr ⟨k, c, e, cellK x c e _ z⟩
  · obtain ⟨v, z⟩ := I.cell x c e
    exact ⟨v, cellK x c e v z⟩
  · obtain ⟨m, ⟨o, _, _, ho, _⟩, _⟩ := I.loc
    exact free _ o (fun z => (hch _ z).2.1 rfl) ho I.free
  · obtain ⟨v, o, ho, hd⟩ := I.cell x c e
    exact free c o (fun z => (hch c z).2.2.1 x c e rfl) ho (I.freeC x c e)
  · obtain ⟨e, n, ne, nf, d⟩ := I.pin p hp
    have nch : p.1 ∉ ch := fun z => (hch p.1 z).2.2.2 p hp rfl
    exact ⟨keep p.1 p.2 ne nf nch e n, free p.1 p.2 nch e n, ne, nf, d⟩
theorem Inv.un {t' : Nat} (I : Inv X pins σ H s) (u : Un X.fs [] H H' s.heap h') (hok : HOk X.prog X.w H' h') : Inv X pins σ H' { s with heap := h', toks := t' } := by
  obtain ⟨m, ⟨o, es, ep, ho, r⟩, _⟩ := id I.loc
  obtain ⟨sl, hL⟩ := u.any ho I.free (by simp)
  exact I.step (g' := s.gens) (d' := s.drawn) (ch := []) (fun _ z => nomatch z) (fun b o _ hb _ e n => u.keep b o e n hb (by simp)) (fun b o _ hb _ e n => u.slot b o e n hb (by simp)) (fun b o _ e n => u.free b o e n (by simp)) (fun b o _ e => u.there b o e (by simp)) u.tups u.frzs u.tbls (fun m' hm => by
    obtain ⟨o', es', ep', ho', r'⟩ := hm
    rw [ho] at ho'; cases ho'
    exact ⟨_, es', ep', hL, r'⟩) hok I.bare
theorem Inv.call {g' : Array GenState} {t' : Nat} {d' : Drawn} {ch : List Addr} (I : Inv X pins σ H s) (u : Un (frs X.stack) ch H H' s.heap h') (hok : HOk X.prog X.w H' h') (hg : AllBare g')
    (hch : ∀ b ∈ ch, (b ∈ X.ex ∨ X.s₀.heap.objs.size ≤ b) ∧ b ≠ X.env.locals ∧ (∀ x c, X.env.cells.lookup x = some c → c ≠ b) ∧ ∀ p ∈ X.pn ++ pins, p.1 ≠ b) :
    Inv X pins σ H' { s with heap := h', gens := g', drawn := d', toks := t' } := by
  obtain ⟨m, ⟨o, es, ep, ho, r⟩, _⟩ := id I.loc
  obtain ⟨sl, hL⟩ := u.any ho I.free fun z => (hch _ z).2.1 rfl
  exact I.step (ch := ch) hch (fun b o hL hb hc e n => u.keep b o e n (fun z => (List.mem_cons.mp (I.stkSub b z)).elim hL hb) hc) (fun b o _ _ hc e n => u.any e n hc) (fun b o hc e n => u.free b o e n hc) (fun b o hc e => u.there b o e hc) u.tups u.frzs u.tbls (fun m' hm => by
    obtain ⟨o', es', ep', ho', r'⟩ := hm
    rw [ho] at ho'; cases ho'
    exact ⟨_, es', ep', hL, r'⟩) hok hg
theorem Inv.turned {t' : Nat} {it : Addr} (I : Inv X pins σ H s) (k : ∀ b o, b ≠ it → s.heap.get? b = some o → h'.get? b = some o) (hn : H it = none) (hL : it ≠ X.env.locals)
    (h1 : it ∈ X.ex ∨ X.s₀.heap.objs.size ≤ it) (h2 : ∀ x c, X.env.cells.lookup x = some c → c ≠ it) (h3 : ∀ p ∈ X.pn ++ pins, p.1 ≠ it) : Inv X pins σ H { s with heap := h', toks := t' } := by
  have nit : ∀ b u, H b = some u → b ≠ it := fun b u e z => by rw [z, hn] at e; cases e
  refine I.step (g' := s.gens) (d' := s.drawn) (ch := [it]) (fun b hb => ?_) (fun b o _ _ hc e _ => k b o (fun z => hc (by simp [z])) e) (fun b o _ _ hc e _ => ⟨o.slots, k b o (fun z => hc (by simp [z])) e⟩) (fun _ _ _ _ n => n)
    (fun b o hc e => ⟨o, k b o (fun z => hc (by simp [z])) e⟩) (fun _ _ e => e) (fun _ _ _ e => e) (fun b ps e => ⟨#[], by rw [e]; simp⟩) (fun m hm => ?_) (fun b u e => ?_) I.bare
  · have e : b = it := by simpa using hb
    subst e
    exact ⟨h1, hL, h2, h3⟩
  · obtain ⟨o, es, ep, ho, r⟩ := hm
    exact ⟨o, es, ep, k _ o (Ne.symm hL) ho, r⟩
  · refine (I.hok b u e).stay (fun c v hc q => k c v ?_ q) (fun _ q => q) fun _ _ q => q
    rcases hc with z | z
    · rw [z]; exact nit b u e
    · exact nit c _ z
theorem Inv.tok (I : Inv X pins σ H s) (t : Nat) : Inv X pins σ H { s with toks := t } := I.un (h' := s.heap) (t' := t) Un.refl I.hok
theorem Inv.kept {t' : Nat} (I : Inv X pins σ H s) (k : ∀ b u, s.heap.get? b = some u → h'.get? b = some u) : Inv X pins σ H { s with heap := h', toks := t' } := I.un (Un.kept k) (I.hok.kept k)
theorem Inv.laid {a : Addr} {o : HO} {t' : Nat} (I : Inv X pins σ H s) (k : ∀ b u, s.heap.get? b = some u → h'.get? b = some u) (hp : s.heap.objs.size ≤ a) (new : ObjOk X.prog X.w (upd H a o) h' a o) :
    Inv X pins σ (upd H a o) { s with heap := h', toks := t' } := I.un (Un.laid k hp (I.hok.fresh hp)) (I.hok.laid k hp new)
theorem Inv.write {x e : Addr} {o : HO} {t' : Nat} (I : Inv X pins σ H s) (mu : Mut (H x)) (he : e = x ∨ H e = some (.own x)) (k : ∀ b u, b ≠ e → s.heap.get? b = some u → h'.get? b = some u) (heo : ∃ u, h'.get? e = some u)
    (new : ObjOk X.prog X.w (upd H x o) h' x o) : Inv X pins σ (upd H x o) { s with heap := h', toks := t' } := I.un (Un.write mu he k heo) (I.hok.write mu he k heo new)
theorem Inv.weak {σ' : List (Option V)} (I : Inv X pins σ H s) (hl : σ'.length = σ.length) (w : ∀ (i : Nat) v, σ'[i]? = some (some v) → σ[i]? = some (some v)) : Inv X pins σ' H s :=
  ⟨I.ok, I.os, I.bare, I.base, let ⟨m, hn, hl'⟩ := I.loc; ⟨m, hn, fun i x v e1 e2 e3 => hl' i x v e1 (w i v e2) e3⟩, I.cell, I.free, I.freeC, I.pin, I.hok, hl.trans I.len⟩
theorem Inv.pins_of {pins' : List (Addr × Obj)} (I : Inv X pins σ H s) (h : ∀ p ∈ pins', s.heap.get? p.1 = some p.2 ∧ H p.1 = none ∧ p.1 ≠ X.env.locals ∧ p.1 ∉ X.fs ∧ ∀ v, p.2.data ≠ .cell v) : Inv X pins' σ H s :=
  ⟨I.ok, I.os, I.bare, I.base, I.loc, I.cell, I.free, I.freeC, fun p hp => (List.mem_append.mp hp).elim (fun z => I.pin p (List.mem_append_left _ z)) (h p), I.hok, I.len⟩
theorem nodup_ix {N : List Str} (hN : N.Nodup) {i j : Nat} {x : Str} (a : N[i]? = some x) (b : N[j]? = some x) : i = j := by
  obtain ⟨h1, e1⟩ := List.getElem?_eq_some_iff.mp a
  obtain ⟨h2, e2⟩ := List.getElem?_eq_some_iff.mp b
  exact (List.getElem_inj hN).mp (e1.trans e2.symm)
theorem store_ok2 {M : Model} {A : Around} {E : Value → Shared → Prop} {i : Nat} {x : Str} {v : V} {u : Value} {Q : Unit → Shared → Prop} (I : Inv X pins σ H s) (hN : X.N.Nodup) (hi : X.N[i]? = some x) (hx : Loc X.env.scope x) (r : RelV v u)
    (h : ∀ s', Inv X pins (σ.set i (some v)) H s' → (∃ a, Heap.SameBut a s.heap s'.heap ∧ (a = X.env.locals ∨ X.env.cells.lookup x = some a)) → Q () s') (hf : X.fn x = true ∨ X.env.scope.names.lookup x = some .local := by first | exact .inl rfl | exact .inr rfl | assumption) : wpAny M A (storeName X.env x u) Q E s := by
  obtain ⟨m, hn, hl⟩ := id I.loc
  have hcls : (X.env.scope.kind == .class || (X.env.scope.kind == .module && X.env.locals != X.env.globals)) = false := by rw [I.ok.kind]; rfl
  have hiσ : i < σ.length := by rw [I.len]; exact (List.getElem?_eq_some_iff.mp hi).1
  have cne := I.cne
  have tracked : ∀ {a : Addr} {h' : Heap}, (∃ o, s.heap.get? a = some o ∧ H a = none) → Heap.SameBut a s.heap h' → HOk X.prog X.w H h' := fun {a h'} ha hs b ob e => by
    obtain ⟨_, _, hfree⟩ := ha
    refine (I.hok b ob e).stay (fun c w' hc q => (hs.2 c ?_).trans q) (fun _ q => q) fun _ _ q => q
    rintro rfl
    rcases hc with rfl | hc
    · rw [hfree] at e; cases e
    · rw [hfree] at hc; cases hc
  rcases hx with hk | hk
  · refine wpAny_storeName_local hk hn (fun h' hn' hs => ?_) hcls
    obtain ⟨oL, _, _, hoL, _⟩ := id hn
    refine h _ ⟨I.ok, I.os, I.bare, ⟨fun b o e n hb hx => ?_, fun b o e n hb hx => ?_, I.base.free, fun b o e hx => ?_, I.base.tups, I.base.frzs, I.base.tbls⟩, ⟨_, hn', fun j y v' e1 e2 e3 => ?_⟩, fun y c e => ?_, I.free, I.freeC, fun p hp => ?_, tracked ⟨oL, hoL, I.free⟩ hs, by simpa using I.len⟩ ⟨_, hs, .inl rfl⟩
    · exact (hs.2 b (Nat.ne_of_lt (Nat.lt_of_lt_of_le (Heap.lt_size e) I.ok.above))).trans (I.base.keep b o e n hb hx)
    · obtain ⟨sl, e1⟩ := I.base.slot b o e n hb hx
      exact ⟨sl, (hs.2 b (Nat.ne_of_lt (Nat.lt_of_lt_of_le (Heap.lt_size e) I.ok.above))).trans e1⟩
    · obtain ⟨o', e1⟩ := I.base.there b o e hx
      exact ⟨o', (hs.2 b (Nat.ne_of_lt (Nat.lt_of_lt_of_le (Heap.lt_size e) I.ok.above))).trans e1⟩
    · by_cases hj : j = i
      · subst hj
        rw [hi] at e1; cases e1
        rw [List.getElem?_set_self hiσ] at e2
        cases e2
        exact ⟨u, r, .inl ⟨hk, by simp⟩⟩
      · rw [List.getElem?_set_ne (Ne.symm hj)] at e2
        obtain ⟨u', r', q⟩ := hl j y v' e1 e2 e3
        refine ⟨u', r', ?_⟩
        rcases q with ⟨k, e⟩ | ⟨k, c, e, z⟩
        · refine .inl ⟨k, ?_⟩
          have : y ≠ x := fun e => hj (nodup_ix hN e1 (e ▸ hi))
          simp [this, e]
        · exact .inr ⟨k, c, e, z.sameBut hs (cne y c e)⟩
    · obtain ⟨w', z⟩ := I.cell y c e
      exact ⟨w', z.sameBut hs (cne y c e)⟩
    · obtain ⟨e, n, ne, nf, d⟩ := I.pin p hp
      exact ⟨(hs.2 p.1 ne).trans e, n, ne, nf, d⟩
  · have hfn : X.fn x = true := by
      rcases hf with z | z
      · exact z
      · rw [z] at hk; cases hk
    obtain ⟨c, hc⟩ := I.ok.has x (.inl hk)
    obtain ⟨w', z⟩ := I.cell x c hc
    refine wpAny_storeName_cell I.ok.kind hk hc z (fun h' hc' hs => ?_)
    obtain ⟨oc, hoc, hocd⟩ := id z
    refine h { s with heap := h' } ⟨I.ok, I.os, I.bare, ⟨fun b o e n hb hx => ?_, fun b o e n hb hx => ?_, I.base.free, fun b o e hx => ?_, I.base.tups, I.base.frzs, I.base.tbls⟩, ⟨m, hn.sameBut hs (Ne.symm (cne x c hc)), fun j y v' e1 e2 e3 => ?_⟩, fun y c' e => ?_, I.free, I.freeC, fun p hp => ?_, tracked ⟨oc, hoc, I.freeC x c hc⟩ hs, by simpa using I.len⟩ ⟨c, hs, .inr hc⟩
    · exact (hs.2 b (Nat.ne_of_lt (Nat.lt_of_lt_of_le (Heap.lt_size e) (I.ok.cab x c hfn hc)))).trans (I.base.keep b o e n hb hx)
    · obtain ⟨sl, e1⟩ := I.base.slot b o e n hb hx
      exact ⟨sl, (hs.2 b (Nat.ne_of_lt (Nat.lt_of_lt_of_le (Heap.lt_size e) (I.ok.cab x c hfn hc)))).trans e1⟩
    · obtain ⟨o', e1⟩ := I.base.there b o e hx
      exact ⟨o', (hs.2 b (Nat.ne_of_lt (Nat.lt_of_lt_of_le (Heap.lt_size e) (I.ok.cab x c hfn hc)))).trans e1⟩
    · by_cases hj : j = i
      · subst hj
        rw [hi] at e1; cases e1
        rw [List.getElem?_set_self hiσ] at e2
        cases e2
        exact ⟨u, r, .inr ⟨.inl hk, c, hc, hc'⟩⟩
      · rw [List.getElem?_set_ne (Ne.symm hj)] at e2
        obtain ⟨u', r', q⟩ := hl j y v' e1 e2 e3
        refine ⟨u', r', ?_⟩
        rcases q with q | ⟨k, c', e, z'⟩
        · exact .inl q
        · refine .inr ⟨k, c', e, z'.sameBut hs ?_⟩
          rintro rfl
          exact hj (nodup_ix hN e1 (I.ok.inj _ _ _ e hc ▸ hi))
    · by_cases hcc : c' = c
      · subst hcc; exact ⟨_, hc'⟩
      · obtain ⟨w2, z2⟩ := I.cell y c' e
        exact ⟨w2, z2.sameBut hs hcc⟩
    · obtain ⟨e, n, ne, nf, d⟩ := I.pin p hp
      refine ⟨(hs.2 p.1 ?_).trans e, n, ne, nf, d⟩
      intro q
      rw [q, hoc] at e
      have q' : oc = p.2 := Option.some.inj e
      exact d w' (by rw [← q']; exact hocd)
theorem store_ok {M : Model} {A : Around} {E : Value → Shared → Prop} {i : Nat} {x : Str} {v : V} {u : Value} {Q : Unit → Shared → Prop} (I : Inv X pins σ H s) (hN : X.N.Nodup) (hi : X.N[i]? = some x) (hx : Loc X.env.scope x) (r : RelV v u)
    (h : ∀ s', Inv X pins (σ.set i (some v)) H s' → Q () s') (hf : X.fn x = true ∨ X.env.scope.names.lookup x = some .local := by first | exact .inl rfl | exact .inr rfl | assumption) : wpAny M A (storeName X.env x u) Q E s :=
  store_ok2 I hN hi hx r (fun s' I' _ => h s' I') hf
theorem Inv.call' {s' : Shared} {ch : List Addr} (I : Inv X pins σ H s) (ho : s'.os = s.os) (u : Un (frs X.stack) ch H H' s.heap s'.heap) (hok : HOk X.prog X.w H' s'.heap) (hg : AllBare s'.gens)
    (hch : ∀ b ∈ ch, (b ∈ X.ex ∨ X.s₀.heap.objs.size ≤ b) ∧ b ≠ X.env.locals ∧ (∀ x c, X.env.cells.lookup x = some c → c ≠ b) ∧ ∀ p ∈ X.pn ++ pins, p.1 ≠ b) : Inv X pins σ H' s' := by
  obtain ⟨h', g', d', t', o'⟩ := s'
  have e : o' = s.os := ho
  subst e
  exact I.call (g' := g') (t' := t') (d' := d') u hok hg hch
end
abbrev XK := Value → Option Addr → Hp → Prop
abbrev St := List (Option V)
abbrev VK := V → Hp → Prop
abbrev TE := St → Hp → VK → Prop
abbrev TT := St → Hp → (Bool → Hp → Prop) → Prop
abbrev TA := St → Hp → (List V → Hp → Prop) → Prop
structure Ends where
  nx : St → Hp → Prop
  rt : VK
  bk : St → Hp → Prop := fun _ _ => False
  ct : St → Hp → Prop := fun _ _ => False
abbrev TS := Ends → St → Hp → Prop
def EP (X : Cx) (pins : List (Addr × Obj)) (σ : St) (Q : VK) (u : Value) (s' : Shared) : Prop := ∃ v H', Inv X pins σ H' s' ∧ RelV v u ∧ Q v H'
def TP (X : Cx) (pins : List (Addr × Obj)) (σ : St) (Q : Bool → Hp → Prop) (b : Bool) (s' : Shared) : Prop := ∃ H', Inv X pins σ H' s' ∧ Q b H'
def AP (X : Cx) (pins : List (Addr × Obj)) (σ : St) (Q : List V → Hp → Prop) (us : List Value) (s' : Shared) : Prop := ∃ vs H', Inv X pins σ H' s' ∧ Vals vs us ∧ Q vs H'
def SP (X : Cx) (pins : List (Addr × Obj)) (D : Ends) (f : Flow) (s' : Shared) : Prop :=
  match f with
  | .next => ∃ σ' H', Inv X pins σ' H' s' ∧ D.nx σ' H'
  | .brk => ∃ σ' H', Inv X pins σ' H' s' ∧ D.bk σ' H'
  | .cont => ∃ σ' H', Inv X pins σ' H' s' ∧ D.ct σ' H'
  | .ret u => ∃ v σ' H', Inv X pins σ' H' s' ∧ RelV v u ∧ D.rt v H'
def PE (X : Cx) (e : Expr) (t : TE) : Prop :=
  ∀ (pins : List (Addr × Obj)) (s : Shared) (σ : St) (H : Hp) (Q : VK), Inv X pins σ H s → t σ H Q → wpAny (model X.prog X.w) X.A (eval e X.env) (EP X pins σ Q) X.xe s
def PT (X : Cx) (e : Expr) (t : TT) : Prop :=
  ∀ (pins : List (Addr × Obj)) (s : Shared) (σ : St) (H : Hp) (Q : Bool → Hp → Prop), Inv X pins σ H s → t σ H Q → wpAny (model X.prog X.w) X.A (isTrue e X.env (eval e X.env)) (TP X pins σ Q) X.xe s
def PW (X : Cx) (e : Expr) (t : TT) : Prop :=
  ∀ (whole : Sem Value) (pins : List (Addr × Obj)) (s : Shared) (σ : St) (H : Hp) (Q : Bool → Hp → Prop), Inv X pins σ H s → t σ H Q → wpAny (model X.prog X.w) X.A (isTrue e X.env whole) (TP X pins σ Q) X.xe s
theorem PW.pt {X : Cx} {e : Expr} {t : TT} (h : PW X e t) : PT X e t := h _
def PA (X : Cx) (es : List Expr) (t : TA) : Prop :=
  ∀ (pos : Pos) (pins : List (Addr × Obj)) (s : Shared) (σ : St) (H : Hp) (Q : List V → Hp → Prop), Inv X pins σ H s → t σ H Q → wpAny (model X.prog X.w) X.A (spliced (backTo pos (starEach es X.env))) (AP X pins σ Q) X.xe s
def PS (X : Cx) (st : Stmt) (t : TS) : Prop :=
  ∀ (pins : List (Addr × Obj)) (s : Shared) (σ : St) (H : Hp) (D : Ends), Inv X pins σ H s → t D σ H → wpAny (model X.prog X.w) X.A (exec st X.env) (SP X pins D) X.xe s
def PSs (X : Cx) (st : List Stmt) (t : TS) : Prop :=
  ∀ (pins : List (Addr × Obj)) (s : Shared) (σ : St) (H : Hp) (D : Ends), Inv X pins σ H s → t D σ H → wpAny (model X.prog X.w) X.A (execs st X.env) (SP X pins D) X.xe s
theorem thn {α : Type} {t : Sem α} {Q Q' : α → Shared → Prop} {M : Model} {A : Around} {E : Value → Shared → Prop} {s : Shared} (h : wpAny M A t Q E s) (hQ : ∀ a s, Q a s → Q' a s) : wpAny M A t Q' E s := wpAny_mono h hQ fun _ _ x => x
end L2
namespace L2
open PySem PySem.Spec PyProof.Rows
section
variable {X : Cx}
def tVar (i : Nat) : TE := fun σ H Q => ∃ v, σ[i]? = some (some v) ∧ Q v H
def tC (v : V) : TE := fun _ H Q => Q v H
theorem pe_var {i : Nat} {x : Str} {pos : Pos} (hN : X.N[i]? = some x) (hv : Vis X.env.scope x) (hd : (x == ("__debug__" : Str)) = false := by decide) (hcd : (x == ("__classdict__" : Str)) = false := by decide) : PE X (.Name x pos) (tVar i) := by
  intro pins s σ H Q I h
  obtain ⟨v, e, h⟩ := h
  obtain ⟨m, hn, hl⟩ := I.loc
  obtain ⟨u, r, l⟩ := hl i x v hN e hv
  have fin : EP X pins σ Q u s := ⟨v, H, I, r, h⟩
  rcases l with ⟨hk, hm⟩ | ⟨hk, c, hc, hcell⟩
  · exact wpAny_Name (wpAny_loadName_local I.ok.kind hk hn hm fin) hd
  · rcases hk with hk | hk
    · exact wpAny_Name (wpAny_loadName_cell I.ok.kind hk hc hcell fin) hd
    · exact wpAny_Name (wpAny_loadName_free I.ok.kind hk hc hcell fin hcd) hd
theorem pe_int {i j pos} : PE X (.Constant (.int i) j pos) (tC (.int i)) := fun _ _ _ H _ I h => wpAny_Constant_int ⟨.int i, H, I.tok _, ⟨_, rfl⟩, h⟩
theorem pe_bl {b j pos} : PE X (.Constant (.bool b) j pos) (tC (.bl b)) := fun _ _ _ H _ I h => Constant_bool ⟨.bl b, H, I, rfl, h⟩
theorem pe_str {x j pos} : PE X (.Constant (.str x) j pos) (tC (.str x)) := fun _ _ _ H _ I h => Calls.Constant_str ⟨.str x, H, I.tok _, ⟨_, rfl⟩, h⟩
def Gl (X : Cx) (x : Str) : Prop := X.env.kindOf x = some .globalImplicit
theorem ld_glob {E : Value → Shared → Prop} {pins : List (Addr × Obj)} {s : Shared} {σ : St} {H : Hp} {x : Str} {u : Value} {pos : Pos} {Q : Value → Shared → Prop} (I : Inv X pins σ H s) (hg : Gl X x) (hm : X.mg x = some u) (h : Q u s)
    (hd : (x == ("__debug__" : Str)) = false := by decide) : wpAny (model X.prog X.w) X.A (eval (.Name x pos) X.env) Q E s :=
  Calls.Name_function_global I.ok.kind hg (Calls.loadGlobal_global (by rw [I.ok.glob]; exact I.mod.glob.keeps I.bk) hm h) hd
theorem ld_blt {E : Value → Shared → Prop} {pins : List (Addr × Obj)} {s : Shared} {σ : St} {H : Hp} {x : Str} {u : Value} {pos : Pos} {Q : Value → Shared → Prop} (I : Inv X pins σ H s) (hg : Gl X x) (hm : X.mg x = none) (hv : bootBuiltins x = some u) (h : Q u s)
    (hn : x ≠ "__name__" := by decide) (hd : (x == ("__debug__" : Str)) = false := by decide) : wpAny (model X.prog X.w) X.A (eval (.Name x pos) X.env) Q E s := by
  obtain ⟨mb, h1, h2⟩ := I.mod.blt
  exact Calls.Name_function_global I.ok.kind hg (Calls.loadGlobal_builtin (by rw [I.ok.glob]; exact I.mod.glob.keeps I.bk) hm (by rw [I.ok.blt]; exact h1.keeps I.bk) ((h2 x hn).trans hv) h) hd
def t2I (ta tb : TE) (k : Int → Int → Hp → Prop) : St → Hp → Prop := fun σ H => ta σ H fun x H1 => tb σ H1 fun y H2 => ∃ i j, x = .int i ∧ y = .int j ∧ k i j H2
variable {a b : Expr} {ta tb : TE} {pos : Pos}
def tCmp (p : Int → Int → Bool) (ta tb : TE) : TE := fun σ H Q => t2I ta tb (fun i j H2 => Q (.bl (p i j)) H2) σ H
abbrev tLt : TE → TE → TE := tCmp fun i j => decide (i < j)
abbrev tLe : TE → TE → TE := tCmp fun i j => decide (i ≤ j)
abbrev tGt : TE → TE → TE := tCmp fun i j => decide (j < i)
abbrev tGe : TE → TE → TE := tCmp fun i j => decide (j ≤ i)
abbrev tEqI : TE → TE → TE := tCmp fun i j => decide (i = j)
abbrev tNeI : TE → TE → TE := tCmp fun i j => !decide (i = j)
variable {tA tB' : TT} {rest : List Expr}
def tOr (t u : TT) : TT := fun σ H Q => t σ H fun c H1 => if c = true then Q true H1 else u σ H1 Q
theorem pw_or1 (ha : PT X a tA) : PW X (.BoolOp .Or [a] pos) tA := by
  intro wh pins s σ H Q I h
  refine isTrue_or (thn (ha pins s σ H Q I h) fun c s1 e => ?_)
  cases c with
  | false => exact isTrue_or_nil e
  | true => exact e
theorem pw_or (ha : PT X a tA) (hb : PW X (.BoolOp .Or (b :: rest) pos) tB') : PW X (.BoolOp .Or (a :: b :: rest) pos) (tOr tA tB') := by
  intro wh pins s σ H Q I h
  refine isTrue_or (thn (ha pins s σ H _ I h) fun c s1 ⟨H1, I1, q1⟩ => ?_)
  cases c with
  | true => exact ⟨H1, I1, q1⟩
  | false => exact hb wh pins s1 σ H1 Q I1 q1
def tAndV (ta tb : TE) : TE := fun σ H Q => ta σ H fun x H1 => ∃ c, x = .bl c ∧ if c = true then tb σ H1 Q else Q (.bl false) H1
theorem pe_one {op} {t : TE} (h : PE X a t) : PE X (.BoolOp op [a] pos) t := fun pins s σ H Q I hw => BoolOp_one (h pins s σ H Q I hw)
theorem pe_and (ha : PE X a ta) (hb : PE X (.BoolOp .And (b :: rest) pos) tb) : PE X (.BoolOp .And (a :: b :: rest) pos) (tAndV ta tb) := by
  intro pins s σ H Q I h
  refine BoolOp_and (thn (ha pins s σ H _ I h) fun v s1 ⟨x, H1, I1, r1, q1⟩ => ?_)
  obtain ⟨c, rfl, q1⟩ := q1
  cases r1
  refine wpAny_truthy_bool ?_
  cases c with
  | true => exact hb pins s1 σ H1 Q I1 q1
  | false => exact ⟨.bl false, H1, I1, rfl, q1⟩
end
end L2
namespace L2
open PySem PySem.Spec PyProof.Rows
def SqL (K : PySem.W.Frag) (H : Hp) (a : Addr) (xs : List V) : Prop :=
  Rd H a (.lst xs) ∨
    ∃ (o : Obj) (its : Array Value) (n : Nat), K.lookup a = some o ∧ o.cls = .type "list" ∧ o.dict = none ∧ o.data = .seq its n ∧ its.size ≤ sizeLine ∧ Vals xs its.toList
def SqT (K : PySem.W.Frag) (H : Hp) (a : Addr) (xs : List V) : Prop :=
  Rd H a (.tup xs) ∨
    ∃ (o : Obj) (its : Array Value) (n : Nat), K.lookup a = some o ∧ o.cls = .type "tuple" ∧ o.data = .seq its n ∧ its.size ≤ sizeLine ∧ Vals xs its.toList
def absV : Value → Option V
  | .none => some .non
  | .bool b => some (.bl b)
  | .int i _ => some (.int i)
  | .str x _ => some (.str x)
  | .bytes b _ => some (.byt b)
  | .float b _ => some (.flt b)
  | .ref a => some (.ref a)
  | .type n => some (.ty n)
  | _ => none
theorem RelV.abs {x : V} {u : Value} (r : RelV x u) : absV u = some x := by
  cases x with
  | non => cases r; rfl
  | bl _ => cases r; rfl
  | int _ => obtain ⟨t, rfl⟩ := r; rfl
  | str _ => obtain ⟨t, rfl⟩ := r; rfl
  | byt _ => obtain ⟨t, rfl⟩ := r; rfl
  | flt _ => obtain ⟨t, rfl⟩ := r; rfl
  | ref _ => cases r; rfl
  | ty _ => cases r; rfl
theorem RelV.inj {x y : V} {u : Value} (r : RelV x u) (q : RelV y u) : x = y := Option.some.inj (r.abs.symm.trans q.abs)
theorem Vals.inj : ∀ {xs ys : List V} {us : List Value}, Vals xs us → Vals ys us → xs = ys
  | _, _, _, .nil, .nil => rfl
  | _, _, _, .cons r t, .cons r' t' => by rw [r.inj r', Vals.inj t t']
section
variable {X : Cx} {pins : List (Addr × Obj)} {σ : St} {H : Hp} {s : Shared} {a : Addr} {xs ys : List V}
theorem SqL.of {K : PySem.W.Frag} (h : H a = some (.lst xs)) : SqL K H a xs := .inl (.inl h)
theorem SqT.of {K : PySem.W.Frag} (h : H a = some (.tup xs)) : SqT K H a xs := .inl (.inl h)
theorem Inv.list (I : Inv X pins σ H s) (h : SqL X.K H a xs) : ∃ its : List Value, Vals xs its ∧ PlainL s.heap a its.toArray ∧ xs.length ≤ sizeLine := by
  rcases h with h | ⟨o, its, n, hk, hc, hd, hs, hz, r⟩
  · obtain ⟨z, its, n, r, e⟩ := h.ok I.hok
    exact ⟨its, r, ⟨_, n, e, rfl, rfl, rfl⟩, z⟩
  · refine ⟨its.toList, r, ⟨o, n, I.kIn a o hk, hc, hd, by simpa using hs⟩, ?_⟩
    have e := r.length
    simp only [Array.length_toList] at e
    omega
theorem Inv.tuple (I : Inv X pins σ H s) (h : SqT X.K H a xs) : ∃ its : List Value, Vals xs its ∧ IsTup s.heap a its.toArray ∧ xs.length ≤ sizeLine := by
  rcases h with h | ⟨o, its, n, hk, hc, hs, hz, r⟩
  · obtain ⟨z, its, r, p⟩ := h.ok I.hok
    exact ⟨its, r, p, z⟩
  · refine ⟨its.toList, r, ⟨o, I.kIn a o hk, hc, n, by simpa using hs⟩, ?_⟩
    have e := r.length
    simp only [Array.length_toList] at e
    omega
theorem Inv.list_inj (I : Inv X pins σ H s) (h : SqL X.K H a xs) (h' : SqL X.K H a ys) : xs = ys := by
  obtain ⟨its, r, ⟨o, n, e, _, _, d⟩, _⟩ := I.list h
  obtain ⟨its', r', ⟨o', n', e', _, _, d'⟩, _⟩ := I.list h'
  rw [e] at e'; cases e'
  rw [d] at d'
  injection d' with d1 _
  have : its = its' := by simpa using congrArg Array.toList d1
  subst this
  exact r.inj r'
theorem Inv.tuple_inj (I : Inv X pins σ H s) (h : SqT X.K H a xs) (h' : SqT X.K H a ys) : xs = ys := by
  obtain ⟨its, r, ⟨o, e, _, n, d⟩, _⟩ := I.tuple h
  obtain ⟨its', r', ⟨o', e', _, n', d'⟩, _⟩ := I.tuple h'
  rw [e] at e'; cases e'
  rw [d] at d'
  injection d' with d1 _
  have : its = its' := by simpa using congrArg Array.toList d1
  subst this
  exact r.inj r'
end
abbrev Cx.wish (X : Cx) (E : Value → Shared → Prop) : Cx := { X with xe := E }
abbrev Cx.nox (X : Cx) : Cx := X.wish fun _ _ => False
theorem Cx.Ok.wish {X : Cx} (ok : X.Ok) (E : Value → Shared → Prop) : (X.wish E).Ok :=
  ⟨ok.mod, ok.kind, ok.glob, ok.blt, ok.above, ok.inj, ok.has, ok.cab, ok.hd, ok.frames, ok.stk, ok.exf, ok.bs, ok.bsz, ok.noex, ok.exfs, ok.funs, ok.frf⟩
theorem Cx.Ok.unwish {X : Cx} {E : Value → Shared → Prop} (ok : (X.wish E).Ok) : X.Ok :=
  ⟨ok.mod, ok.kind, ok.glob, ok.blt, ok.above, ok.inj, ok.has, ok.cab, ok.hd, ok.frames, ok.stk, ok.exf, ok.bs, ok.bsz, ok.noex, ok.exfs, ok.funs, ok.frf⟩
section
variable {X : Cx} {pins : List (Addr × Obj)} {σ : St} {H : Hp} {s : Shared} {E : Value → Shared → Prop}
theorem Inv.wish (I : Inv X pins σ H s) (E : Value → Shared → Prop) : Inv (X.wish E) pins σ H s := ⟨I.ok.wish E, I.os, I.bare, I.base, I.loc, I.cell, I.free, I.freeC, I.pin, I.hok, I.len⟩
theorem Inv.unwish (I : Inv (X.wish E) pins σ H s) : Inv X pins σ H s := ⟨I.ok.unwish, I.os, I.bare, I.base, I.loc, I.cell, I.free, I.freeC, I.pin, I.hok, I.len⟩
theorem SP.unwish {D : Ends} {f : Flow} {s' : Shared} (h : SP (X.wish E) pins D f s') : SP X pins D f s' := by
  cases f with
  | next => obtain ⟨σ', H', I, q⟩ := h; exact ⟨σ', H', I.unwish, q⟩
  | brk => obtain ⟨σ', H', I, q⟩ := h; exact ⟨σ', H', I.unwish, q⟩
  | cont => obtain ⟨σ', H', I, q⟩ := h; exact ⟨σ', H', I.unwish, q⟩
  | ret u => obtain ⟨v, σ', H', I, r, q⟩ := h; exact ⟨v, σ', H', I.unwish, r, q⟩
theorem PE.nox {e : Expr} {t : TE} (h : PE X.nox e t) : PE X e t := fun pins s σ H Q I hw =>
  wpAny_mono (h pins s σ H Q (I.wish _) hw) (fun _ _ ⟨v, H', I', r, q⟩ => ⟨v, H', I'.unwish, r, q⟩) fun _ _ z => False.elim z
theorem PT.nox {e : Expr} {t : TT} (h : PT X.nox e t) : PT X e t := fun pins s σ H Q I hw =>
  wpAny_mono (h pins s σ H Q (I.wish _) hw) (fun _ _ ⟨H', I', q⟩ => ⟨H', I'.unwish, q⟩) fun _ _ z => False.elim z
theorem PSs.nox {st : List Stmt} {t : TS} (h : PSs X.nox st t) : PSs X st t := fun pins s σ H D I hw =>
  wpAny_mono (h pins s σ H D (I.wish _) hw) (fun _ _ q => q.unwish) fun _ _ z => False.elim z
end
section
variable {X : Cx} {st : Stmt} {rest : List Stmt} {t u : TS} {e : Expr} {te : TE} {pos : Pos}
def tNext : TS := fun D σ H => D.nx σ H
def tSeq (t u : TS) : TS := fun D σ H => t { D with nx := u D } σ H
theorem pss_nil : PSs X [] tNext := fun _ _ σ H _ I h => wpAny_execs_nil ⟨σ, H, I, h⟩
theorem pss_cons (h1 : PS X st t) (h2 : PSs X rest u) : PSs X (st :: rest) (tSeq t u) := by
  intro pins s σ H D I h
  refine wpAny_execs_cons (thn (h1 pins s σ H { D with nx := u D } I h) fun f s1 q => ?_)
  cases f with
  | next =>
    obtain ⟨σ', H', I', q⟩ := q
    exact h2 pins s1 σ' H' D I' q
  | ret v => exact q
  | brk => exact q
  | cont => exact q
theorem pss_one (h1 : PS X st t) : PSs X [st] t := by
  intro pins s σ H D I h
  refine wpAny_execs_cons (thn (h1 pins s σ H D I h) fun f s1 q => ?_)
  cases f with
  | next => exact wpAny_execs_nil q
  | ret v => exact q
  | brk => exact q
  | cont => exact q
theorem Inv.quiet {pins : List (Addr × Obj)} {σ : St} {H : Hp} {s : Shared} (I : Inv X pins σ H s) : interactive X.env = false := by simp [interactive, I.ok.kind]
def tDrop (te : TE) : TS := fun D σ H => te σ H fun _ H1 => D.nx σ H1
theorem ps_expr (he : PE X e te) (hs : swapsWith e none pos.line X.env = pure false := by rfl) : PS X (.Expr e pos) (tDrop te) := by
  intro pins s σ H D I h
  exact wpAny_Expr_any (thn (he pins s σ H _ I h) fun v s1 ⟨x, H1, I1, r1, q1⟩ => ⟨σ, H1, I1, q1⟩) I.quiet hs
def tRet (te : TE) : TS := fun D σ H => te σ H D.rt
theorem ps_ret (he : PE X e te) : PS X (.Return (some e) pos) (tRet te) := by
  intro pins s σ H D I h
  exact wpAny_Return_some (thn (he pins s σ H _ I h) fun v s1 ⟨x, H1, I1, r1, q1⟩ => ⟨x, σ, H1, I1, r1, q1⟩)
def tIfS (c : TT) (t u : TS) : TS := fun D σ H => c σ H fun b H1 => if b = true then t D σ H1 else u D σ H1
theorem ps_if {c : Expr} {a b : List Stmt} {tc : TT} (hc : PT X c tc) (ha : PSs X a t) (hb : PSs X b u) : PS X (.If c a b pos) (tIfS tc t u) := by
  intro pins s σ H D I h
  refine wpAny_If (thn (hc pins s σ H _ I h) fun d s1 ⟨H1, I1, q1⟩ => ?_)
  cases d with
  | true => exact ha pins s1 σ H1 D I1 q1
  | false => exact hb pins s1 σ H1 D I1 q1
end
abbrev TG := V → St → Hp → (St → Hp → Prop) → Prop
abbrev TGs := List V → St → Hp → (St → Hp → Prop) → Prop
def PG (X : Cx) (target : Expr) (t : TG) : Prop :=
  ∀ (pins : List (Addr × Obj)) (s : Shared) (σ : St) (H : Hp) (v : V) (u : Value) (Q : St → Hp → Prop), Inv X pins σ H s → RelV v u → t v σ H Q →
    wpAny (model X.prog X.w) X.A (assign target X.env u) (fun _ s' => ∃ σ' H', Inv X pins σ' H' s' ∧ Q σ' H') X.xe s
def PGs (X : Cx) (ts : List Expr) (t : TGs) : Prop :=
  ∀ (pins : List (Addr × Obj)) (s : Shared) (σ : St) (H : Hp) (vs : List V) (us : List Value) (Q : St → Hp → Prop), Inv X pins σ H s → Vals vs us → t vs σ H Q →
    wpAny (model X.prog X.w) X.A (assignInOrder ((assignEach ts X.env).map (·.2)) us) (fun _ s' => ∃ σ' H', Inv X pins σ' H' s' ∧ Q σ' H') X.xe s
abbrev TSet := V → V → V → Hp → (Hp → Prop) → Prop
abbrev TIp := V → V → Hp → VK → Prop
section
variable {X : Cx} {pos : Pos}
def gName (i : Nat) : TG := fun v σ H Q => Q (σ.set i (some v)) H
theorem pg_name {i : Nat} {x : Str} (hN : X.N.Nodup) (hi : X.N[i]? = some x) (hx : Loc X.env.scope x) (hf : X.fn x = true ∨ X.env.scope.names.lookup x = some .local := by first | exact .inl rfl | exact .inr rfl | assumption) : PG X (.Name x pos) (gName i) := by
  intro pins s σ H v u Q I r h
  exact wpAny_assign_Name (store_ok I hN hi hx r (fun s' I' => ⟨_, H, I', h⟩) hf)
def gNil : TGs := fun vs σ H Q => vs = [] ∧ Q σ H
def gCons (t : TG) (u : TGs) : TGs := fun vs σ H Q => ∃ v r, vs = v :: r ∧ t v σ H fun σ' H' => u r σ' H' Q
theorem pgs_nil : PGs X [] gNil := by
  intro pins s σ H vs us Q I r h
  obtain ⟨e, h⟩ := h
  subst e
  cases r
  exact assignInOrder_nil ⟨σ, H, I, h⟩
theorem pgs_cons {e : Expr} {es : List Expr} {t : TG} {u : TGs} (h1 : PG X e t) (h2 : PGs X es u)
    (hs : (assignEach (e :: es) X.env).map (·.2) = assign e X.env :: (assignEach es X.env).map (·.2) := by rfl) : PGs X (e :: es) (gCons t u) := by
  intro pins s σ H vs us Q I r h
  obtain ⟨v, vr, e1, h⟩ := h
  subst e1
  cases r with
  | cons r rr =>
    rw [hs]
    refine assignInOrder_cons (thn (h1 pins s σ H _ _ _ I r h) fun _ s1 ⟨σ1, H1, I1, q1⟩ => ?_)
    exact h2 pins s1 σ1 H1 _ _ Q I1 rr q1
def gTup (K : PySem.W.Frag) (n : Nat) (t : TGs) : TG := fun v σ H Q => ∃ a xs, v = .ref a ∧ SqT K H a xs ∧ xs.length = n ∧ t xs σ H Q
theorem pg_tup {es : List Expr} {k : Nat} {t : TGs} {n : Nat} (hc : X.calm = true) (h : PGs X es t)
    (hn : (assignEach es X.env).length = n := by rfl) (hst : (assignEach es X.env).findIdx? (·.1) = none := by rfl) : PG X (.Tuple es k pos) (gTup X.K n t) := by
  intro pins s σ H v u Q I r hw
  obtain ⟨a, xs, e1, hq, hl, hw⟩ := hw
  subst e1
  cases r
  obtain ⟨its, rv, ht, hz⟩ := I.tuple hq
  refine assign_Tuple_tuple (I.ok.hd hc) ht (by simp [hn, ← hl, rv.length]) hst fun h' hx => ?_
  have I1 : Inv X pins σ H { s with heap := h' } := I.kept (t' := s.toks) fun b o e => hx b o (Nat.ne_of_lt (Heap.lt_size e)) e
  exact h pins _ σ H xs _ Q I1 (by simpa using rv) hw
def tAsg (te : TE) (g : TG) : TS := fun D σ H => te σ H fun x H1 => g x σ H1 D.nx
theorem ps_set {i : Nat} {x : Str} {e : Expr} {te : TE} {pos' : Pos} (hN : X.N.Nodup) (hi : X.N[i]? = some x) (hx : Loc X.env.scope x) (he : PE X e te) (hs : swapsWith e (some (.Name x pos')) pos.line X.env = pure false := by rfl) (hf : X.fn x = true ∨ X.env.scope.names.lookup x = some .local := by first | exact .inl rfl | exact .inr rfl | assumption) :
    PS X (.Assign [.Name x pos'] e pos) (tAsg te (gName i)) := by
  intro pins s σ H D I h
  refine wpAny_Assign_Name (thn (he pins s σ H _ I h) fun v s1 ⟨y, H1, I1, r1, q1⟩ => ?_) hs
  exact store_ok I1 hN hi hx r1 (fun s2 I2 => ⟨_, H1, I2, q1⟩) hf
end
section
variable {X : Cx} {pos : Pos}
end
structure It where
  go : Nat → Hp → Prop
  yld : Nat → Hp → V → Hp → Prop
  stop : Nat → Hp → Prop
def FpOk (X : Cx) (pins : List (Addr × Obj)) (H : Hp) (b : Addr) : Prop :=
  H b = none ∧ b ≠ X.env.locals ∧ b ∉ X.fs ∧ (b ∈ X.ex ∨ X.s₀.heap.objs.size ≤ b) ∧ (∀ x c, X.env.cells.lookup x = some c → c ≠ b) ∧ ∀ p ∈ X.pn ++ pins, p.1 ≠ b
theorem Inv.fpOk {X : Cx} {pins : List (Addr × Obj)} {σ : St} {H H' : Hp} {s : Shared} {b : Addr} (I : Inv X pins σ H s) (hb : s.heap.objs.size ≤ b) (hn : H' b = none) : FpOk X pins H' b := by
  refine ⟨hn, Nat.ne_of_gt (Nat.lt_of_lt_of_le I.lt hb), I.nofs hb, .inr (Nat.le_trans I.sz hb), fun x c e z => ?_, fun p hp z => ?_⟩
  · obtain ⟨v, q⟩ := I.cell x c e
    exact absurd (Nat.lt_of_lt_of_le q.lt (by rw [z]; exact hb)) (Nat.lt_irrefl _)
  · exact absurd (Nat.lt_of_lt_of_le (Heap.lt_size (I.pin p hp).1) (by rw [z]; exact hb)) (Nat.lt_irrefl _)
structure Turn (P : Program) (w : World) (K : PySem.W.Frag) (tg : Expr) (J : It) (fp : List Addr) (it : Addr) (tn : Nat → Heap → Prop) : Prop where
  mem : it ∈ fp
  obj : ∀ i h, tn i h → ∀ b ∈ fp, ∃ o, h.get? b = some o ∧ ∀ v, o.data ≠ .cell v
  keep : ∀ i h h', tn i h → (∀ b ∈ fp, ∀ o, h.get? b = some o → h'.get? b = some o) → tn i h'
  item : ∀ (X : Cx), X.prog = P → X.w = w → X.K = K → X.calm = true → ∀ (i : Nat) (pins : List (Addr × Obj)) (s : Shared) (σ : St) (H : Hp) (E : Value → Shared → Prop), Inv X pins σ H s → (∀ b ∈ fp, FpOk X pins H b) → tn i s.heap → J.go i H →
    wpAny (model P w) X.A (pyNext (.ref it)) (fun r s1 => ∃ u, r = some u ∧
      wpAny (model P w) X.A (letOwnedTupleGo tg (.ref it) u) (fun _ s2 => ∃ x H', Inv X pins σ H' s2 ∧ RelV x u ∧ J.yld i H x H' ∧ tn (i + 1) s2.heap ∧ ∀ b ∈ fp, H' b = none) E s1) E s
  done : ∀ (X : Cx), X.prog = P → X.w = w → X.K = K → X.calm = true → ∀ (i : Nat) (pins : List (Addr × Obj)) (s : Shared) (σ : St) (H : Hp) (E : Value → Shared → Prop), Inv X pins σ H s → (∀ b ∈ fp, FpOk X pins H b) → tn i s.heap → J.stop i H →
    wpAny (model P w) X.A (pyNext (.ref it)) (fun r s1 => r = none ∧ Inv X pins σ H s1) E s
  self : ∀ (A : Around) (i : Nat) (s : Shared) (Q : Value → Shared → Prop) (E : Value → Shared → Prop), tn i s.heap → Q (.ref it) s → wpAny (model P w) A (pyIter (.ref it)) Q E s
abbrev TI := St → Hp → (It → Hp → Prop) → Prop
def PIE (X : Cx) (pins : List (Addr × Obj)) (σ : St) (tg : Expr) (R : It → Hp → Prop) (itv : Value) (s2 : Shared) : Prop :=
  ∃ (it : Addr) (fp : List Addr) (tn : Nat → Heap → Prop) (J : It) (H' : Hp), itv = .ref it ∧ Inv X pins σ H' s2 ∧ Turn X.prog X.w X.K tg J fp it tn ∧ tn 0 s2.heap ∧ (∀ b ∈ fp, FpOk X pins H' b) ∧ R J H'
def PI (X : Cx) (tg iter : Expr) (wi : TI) : Prop :=
  ∀ (pins : List (Addr × Obj)) (s : Shared) (σ : St) (H : Hp) (R : It → Hp → Prop), Inv X pins σ H s → wi σ H R →
    wpAny (model X.prog X.w) X.A (eval iter X.env) (fun v s1 => wpAny (model X.prog X.w) X.A (pyIter v) (PIE X pins σ tg R) X.xe s1) X.xe s
theorem go_of {M : Model} {A : Around} {E : Value → Shared → Prop} {s : Shared} {tg : Expr} {it : Addr} {u : Value} {o : Obj} {n : String} {vs : Array Value} {Q : Unit → Shared → Prop} (ho : s.heap.get? it = some o) (hc : o.cls = .type n) (hd : o.data = .fields vs)
    (hn : ["enumerate", "zip", "dict_itemiterator", "dict_reverseitemiterator", "odict_iterator", "itertools.zip_longest", "itertools.pairwise"].contains n = false) (hQ : Q () s) : wpAny M A (letOwnedTupleGo tg (.ref it) u) Q E s := by
  unfold letOwnedTupleGo
  cases tg <;> first
    | exact wpAny_pure hQ
    | (cases u <;> first
        | exact wpAny_pure hQ
        | (refine wpAny_bind (wpAny_load ho ?_)
           rw [hc, hd]
           show wpAny M A (if (["enumerate", "zip", "dict_itemiterator", "dict_reverseitemiterator", "odict_iterator", "itertools.zip_longest", "itertools.pairwise"].contains n && vs[0]? == some (rawInt _)) = true then _ else _) Q E s
           rw [if_neg (by intro h; rw [hn, Bool.false_and] at h; cases h)]
           exact wpAny_pure hQ))
def Itl (K : PySem.W.Frag) (a : Addr) : It :=
  ⟨fun i H => ∃ xs x, SqL K H a xs ∧ xs[i]? = some x, fun i H x H' => H' = H ∧ ∀ xs, SqL K H a xs → xs[i]? = some x, fun i H => ∃ xs, SqL K H a xs ∧ xs.length ≤ i⟩
def Itt (K : PySem.W.Frag) (a : Addr) : It :=
  ⟨fun i H => ∃ xs x, SqT K H a xs ∧ xs[i]? = some x, fun i H x H' => H' = H ∧ ∀ xs, SqT K H a xs → xs[i]? = some x, fun i H => ∃ xs, SqT K H a xs ∧ xs.length ≤ i⟩
def Itr (lo : Int) (n : Nat) : It := ⟨fun i _ => i < n, fun i H x H' => H' = H ∧ x = .int (lo + i), fun i _ => n ≤ i⟩
theorem turn_list {P : Program} {w : World} {K : PySem.W.Frag} {tg : Expr} (a it : Addr) : Turn P w K tg (Itl K a) [it] it (fun i h => h.IsListIter it a i) where
  mem := by simp
  obj := fun i h st b hb => by
    have e : b = it := by simpa using hb
    subst e
    obtain ⟨o, e, c, d⟩ := st
    exact ⟨o, e, fun v z => by rw [d] at z; cases z⟩
  keep := fun i h h' st k => st.at fun o e => k it (by simp) o e
  item := by
    intro X hP hw hK hc i pins s σ H E I hf st hg
    subst hP hw hK
    obtain ⟨xs, x, hq, hx⟩ := hg
    obtain ⟨its, rv, p, hz⟩ := I.list hq
    obtain ⟨u, hu, ru⟩ := rv.get hx
    obtain ⟨f0, f1, f2, f3, f4, f5⟩ := hf it (by simp)
    refine wpAny_pyNext_list_item st p.isList (x := u) (by simpa using hu) fun h' st' sb => ?_
    have I1 : Inv X pins σ H { s with heap := h' } := I.turned (t' := s.toks) (fun b o hb e => (sb.2 b hb).trans e) f0 f1 f3 f4 f5
    obtain ⟨o, e, c, d⟩ := id st'
    exact ⟨u, rfl, go_of (s := { s with heap := h' }) e c d (by decide) ⟨x, H, I1, ru, ⟨rfl, fun ys hy => by rw [I.list_inj hy hq]; exact hx⟩, st', fun b hb => (hf b hb).1⟩⟩
  done := by
    intro X hP hw hK hc i pins s σ H E I hf st hg
    subst hP hw hK
    obtain ⟨xs, hq, hx⟩ := hg
    obtain ⟨its, rv, p, hz⟩ := I.list hq
    obtain ⟨f0, f1, f2, f3, f4, f5⟩ := hf it (by simp)
    have hl := rv.length
    exact wpAny_pyNext_list_end (I.ok.hd hc) st p.isList (by simp; omega) fun h' eb => ⟨rfl, I.turned (t' := s.toks) (fun b o hb e => eb b o hb e) f0 f1 f3 f4 f5⟩
  self := fun _ _ _ _ _ st h => wpAny_pyIter_listiter st h
theorem turn_tuple {P : Program} {w : World} {K : PySem.W.Frag} {tg : Expr} (a it : Addr) : Turn P w K tg (Itt K a) [it] it (fun i h => h.IsTupleIter it a i) where
  mem := by simp
  obj := fun i h st b hb => by
    have e : b = it := by simpa using hb
    subst e
    obtain ⟨o, e, c, d⟩ := st
    exact ⟨o, e, fun v z => by rw [d] at z; cases z⟩
  keep := fun i h h' st k => st.at fun o e => k it (by simp) o e
  item := by
    intro X hP hw hK hc i pins s σ H E I hf st hg
    subst hP hw hK
    obtain ⟨xs, x, hq, hx⟩ := hg
    obtain ⟨its, rv, p, hz⟩ := I.tuple hq
    obtain ⟨u, hu, ru⟩ := rv.get hx
    obtain ⟨f0, f1, f2, f3, f4, f5⟩ := hf it (by simp)
    refine wpAny_pyNext_tuple_item st (show s.heap.IsTuple a its.toArray from p) (x := u) (by simpa using hu) fun h' st' sb => ?_
    have I1 : Inv X pins σ H { s with heap := h' } := I.turned (t' := s.toks) (fun b o hb e => (sb.2 b hb).trans e) f0 f1 f3 f4 f5
    obtain ⟨o, e, c, d⟩ := id st'
    exact ⟨u, rfl, go_of (s := { s with heap := h' }) e c d (by decide) ⟨x, H, I1, ru, ⟨rfl, fun ys hy => by rw [I.tuple_inj hy hq]; exact hx⟩, st', fun b hb => (hf b hb).1⟩⟩
  done := by
    intro X hP hw hK hc i pins s σ H E I hf st hg
    subst hP hw hK
    obtain ⟨xs, hq, hx⟩ := hg
    obtain ⟨its, rv, p, hz⟩ := I.tuple hq
    obtain ⟨f0, f1, f2, f3, f4, f5⟩ := hf it (by simp)
    have hl := rv.length
    exact wpAny_pyNext_tuple_end (I.ok.hd hc) st (show s.heap.IsTuple a its.toArray from p) (by simp; omega) fun h' eb => ⟨rfl, I.turned (t' := s.toks) (fun b o hb e => eb b o hb e) f0 f1 f3 f4 f5⟩
  self := fun _ _ _ _ _ st h => wpAny_pyIter_tupleiter st h
theorem turn_range {P : Program} {w : World} {K : PySem.W.Frag} {tg : Expr} (it : Addr) (lo : Int) (n : Nat) : Turn P w K tg (Itr lo n) [it] it (fun i h => IsRangeIter h it (lo + (i : Nat) * 1) ((n : Int) - (i : Nat)) 1) where
  mem := by simp
  obj := fun i h st b hb => by
    have e : b = it := by simpa using hb
    subst e
    exact ⟨_, st, fun v z => by
      have z' : Data.fields _ = Data.cell v := z
      cases z'⟩
  keep := fun i h h' st k => k it (by simp) _ st
  item := by
    intro X hP hw hK hc i pins s σ H E I hf st hg
    subst hP hw hK
    obtain ⟨f0, f1, f2, f3, f4, f5⟩ := hf it (by simp)
    have W := Walks.range (prog := X.prog) (w := X.w) (I.ok.hd hc) it lo 1 n
    refine W.item i s _ _ hg st fun v h' tk hv st' kk => ?_
    obtain ⟨t, rfl⟩ := hv
    have I1 : Inv X pins σ H { s with heap := h', toks := tk } := I.turned (fun b o hb e => kk b o (by simpa using hb) e) f0 f1 f3 f4 f5
    refine ⟨_, rfl, go_of (s := { s with heap := h', toks := tk }) (n := "range_iterator") st' rfl rfl (by decide) ⟨.int (lo + i), H, I1, ⟨t, ?_⟩, ⟨rfl, rfl⟩, st', fun b hb => (hf b hb).1⟩⟩
    rw [Int.mul_one]
  done := by
    intro X hP hw hK hc i pins s σ H E I hf st hg
    subst hP hw hK
    obtain ⟨f0, f1, f2, f3, f4, f5⟩ := hf it (by simp)
    exact wpAny_pyNext_range_end (I.ok.hd hc) st (by have : n ≤ i := hg; omega) fun h' eb => ⟨rfl, I.turned (t' := s.toks) (fun b o hb e => eb b o hb e) f0 f1 f3 f4 f5⟩
  self := fun _ _ _ _ _ st h => wpAny_pyIter_rangeiter st h
end L2
namespace L2
open PySem PySem.Spec PyProof.Rows
section
variable {X : Cx} {tg : Expr}
theorem range_it {pins : List (Addr × Obj)} {σ : St} {H : Hp} {s : Shared} {R : It → Hp → Prop} {E : Value → Shared → Prop} {lo hi : Int} {t u v : Tok} {tk : Nat} (I : Inv X pins σ H s) (h1 : -(2 ^ 62) ≤ lo) (h2 : lo < 2 ^ 62) (h3 : -(2 ^ 62) ≤ hi) (h4 : hi < 2 ^ 62)
    (q : R (Itr lo (hi - lo).toNat) H) : wpAny (model X.prog X.w) X.A (pyIter (.ref s.heap.objs.size)) (PIE X pins σ tg R) E { s with heap := s.heap.push { cls := .type "range", data := .fields #[.int lo t, .int hi u, .int 1 v] }, toks := tk } := by
  refine wpAny_pyIter_range (IsRange.new ..) (small_one h1 h2 h3 h4) ?_
  have I1 : Inv X pins σ H { s with heap := s.heap.push { cls := .type "range", data := .fields #[.int lo t, .int hi u, .int 1 v] }, toks := tk } := I.kept fun b o e => Heap.get?_push_of_some _ e
  refine ⟨(s.heap.push { cls := .type "range", data := .fields #[.int lo t, .int hi u, .int 1 v] }).objs.size, [(s.heap.push { cls := .type "range", data := .fields #[.int lo t, .int hi u, .int 1 v] }).objs.size], _, _, H, rfl,
    I1.kept (t' := tk) fun b o e => Heap.get?_push_of_some _ e, turn_range _ lo (hi - lo).toNat, ?_, fun b hb => ?_, q⟩
  · have e1 : lo + ((0 : Nat) : Int) * 1 = lo := by simp
    have e2 : (((hi - lo).toNat : Nat) : Int) - ((0 : Nat) : Int) = Builtin.Range.rangeSize lo hi 1 := by rw [rangeSize_one]; split <;> omega
    show IsRangeIter _ _ (lo + ((0 : Nat) : Int) * 1) ((((hi - lo).toNat : Nat) : Int) - ((0 : Nat) : Int)) 1
    rw [e1, e2]
    exact Heap.get?_push_size _ rfl
  · have e : b = (s.heap.push { cls := .type "range", data := .fields #[.int lo t, .int hi u, .int 1 v] }).objs.size := by simpa using hb
    subst e
    exact I1.fpOk (Nat.le_refl _) (I1.hok.fresh (Nat.le_refl _))
def iRng1 (ta : TA) : TI := fun σ H R => ta σ H fun vs H1 => ∃ j : Int, vs = [.int j] ∧ -(2 ^ 62) ≤ j ∧ j < 2 ^ 62 ∧ R (Itr 0 j.toNat) H1
theorem pi_range1 {a : Expr} {ta : TA} {p pos : Pos} (hg : Gl X "range") (hm : X.mg "range" = none) (ha : PA X [a] ta) (hs : starEach [a] X.env = [(false, eval a X.env)] := by rfl) : PI X tg (.Call (.Name "range" p) [a] [] pos) (iRng1 ta) := by
  intro pins s σ H R I h
  refine Call_ (ld_blt I hg hm boot_range (PyProof.Rows.callWith_type1 (thn (ha pos pins s σ H _ I h) fun us s1 ⟨vs, H1, I1, r1, q1⟩ => ?_) hs rfl))
  obtain ⟨j, e, q1, q2, q⟩ := q1
  subst e
  cases r1 with
  | cons r rr =>
    cases rr
    obtain ⟨t, rfl⟩ := r
    exact call_range_1 (range_it I1 (by omega) (by omega) q1 q2 (by simpa using q))
def tFor (wi : TI) (g : TG) (tb : TS) : TS := fun D σ H => wi σ H fun J H1 => ∃ W : Nat → Nat → St → Hp → Prop, (∃ m, W 0 m σ H1) ∧ ∀ i m σ H, W i m σ H →
  (J.stop i H ∧ D.nx σ H) ∨ (J.go i H ∧ ∃ N : St → Hp → Prop, (∀ σ' H', N σ' H' → ∃ m', m' < m ∧ W (i + 1) m' σ' H') ∧ ∀ x H', J.yld i H x H' → g x σ H' fun σ2 H2 => tb { D with nx := N, ct := N, bk := D.nx } σ2 H2)
def pinsAt (fp : List Addr) (h : Heap) : List (Addr × Obj) := fp.filterMap fun b => (h.get? b).map fun o => (b, o)
theorem mem_pinsAt {fp : List Addr} {h : Heap} {b : Addr} {o : Obj} (hb : b ∈ fp) (e : h.get? b = some o) : (b, o) ∈ pinsAt fp h := List.mem_filterMap.mpr ⟨b, hb, by rw [e]; rfl⟩
theorem of_pinsAt {fp : List Addr} {h : Heap} {p : Addr × Obj} (hp : p ∈ pinsAt fp h) : p.1 ∈ fp ∧ h.get? p.1 = some p.2 := by
  obtain ⟨b, hb, e⟩ := List.mem_filterMap.mp hp
  cases q : h.get? b with
  | none => rw [q] at e; cases e
  | some o =>
    rw [q] at e
    have e' : (b, o) = p := Option.some.inj e
    subst e'
    exact ⟨hb, q⟩
theorem Inv.pinned {pins : List (Addr × Obj)} {σ : St} {H : Hp} {s : Shared} {fp : List Addr} (I : Inv X pins σ H s) (hf : ∀ b ∈ fp, FpOk X pins H b) (ho : ∀ b ∈ fp, ∃ o, s.heap.get? b = some o ∧ ∀ v, o.data ≠ .cell v) : Inv X (pins ++ pinsAt fp s.heap) σ H s :=
  I.pins_of fun p hp => (List.mem_append.mp hp).elim (fun z => I.pin p (List.mem_append_right _ z)) fun z => by
    obtain ⟨hb, e⟩ := of_pinsAt z
    obtain ⟨f0, f1, f2, _⟩ := hf p.1 hb
    obtain ⟨o, e', d⟩ := ho p.1 hb
    rw [e] at e'; cases e'
    exact ⟨e, f0, f1, f2, d⟩
theorem Inv.unpinned {pins pl : List (Addr × Obj)} {σ : St} {H : Hp} {s : Shared} (I : Inv X (pins ++ pl) σ H s) : Inv X pins σ H s := I.pins_of fun p hp => I.pin p (List.mem_append_right _ (List.mem_append_left _ hp))
theorem ps_for {iter : Expr} {body : List Stmt} {wi : TI} {g : TG} {tb : TS} {pos : Pos} (hp : PassesOwn (model X.prog X.w) X.A X.env X.xe) (hc : X.calm = true) (hi : PI X tg iter wi) (hg : PG X tg g) (hb : PSs X body tb)
    (hs : ∀ x, foldedSetIterable iter X.env x = pure x := by intro _; rfl) : PS X (.For tg iter body [] pos) (tFor wi g tb) := by
  intro pins s σ H D I h
  refine wpAny_For (thn (hi pins s σ H _ I h) fun v s1 h1 => thn h1 fun itv s2 h2 => ?_) hs
  obtain ⟨it, fp, tn, J, H2, e, I2, T, st2, f2, W, ⟨m0, w0⟩, turn⟩ := h2
  subst e
  have stat : ∀ {H' : Hp}, (∀ b ∈ fp, H' b = none) → ∀ b ∈ fp, FpOk X pins H' b := fun hn b hb => ⟨hn b hb, (f2 b hb).2⟩
  refine codeAny_forLoop_any (fun n s' => ∃ i σ' H', Inv X pins σ' H' s' ∧ tn i s'.heap ∧ (∀ b ∈ fp, H' b = none) ∧ W i n σ' H') ?_ m0 ⟨0, σ, H2, I2, st2, fun b hb => (f2 b hb).1, w0⟩
  rintro n s3 ⟨i, σ3, H3, I3, st3, fr3, w3⟩
  rcases turn i n σ3 H3 w3 with ⟨stop, qn⟩ | ⟨go, N, hN, step⟩
  · refine wpAny_passesOwn hp (thn (T.done X rfl rfl rfl hc i pins s3 σ3 H3 X.xe I3 (stat fr3) st3 stop) fun r s4 ⟨hr, I4⟩ => ?_)
    subst hr
    exact wpAny_execs_nil ⟨σ3, H3, I4, qn⟩
  · refine wpAny_passesOwn hp (thn (T.item X rfl rfl rfl hc i pins s3 σ3 H3 X.xe I3 (stat fr3) st3 go) fun r s4 ⟨u, hr, h4⟩ => ?_)
    subst hr
    refine wpAny_passesOwn hp (thn h4 fun _ s5 ⟨x, H5, I5, r5, y5, st5, fr5⟩ => ?_)
    have I5' := I5.pinned (stat fr5) (T.obj _ _ st5)
    refine wpAny_passesOwn hp (thn (hg _ s5 σ3 H5 x u _ I5' r5 (step x H5 y5)) fun _ s6 ⟨σ6, H6, I6, q6⟩ => ?_)
    refine wpAny_passesOwn hp (thn (hb _ s6 σ6 H6 _ I6 q6) fun f s7 q7 => ?_)
    have again : ∀ {σ7 : St} {H7 : Hp}, Inv X (pins ++ pinsAt fp s5.heap) σ7 H7 s7 → N σ7 H7 → ∃ m, m < n ∧ ∃ i σ' H', Inv X pins σ' H' s7 ∧ tn i s7.heap ∧ (∀ b ∈ fp, H' b = none) ∧ W i m σ' H' := fun {σ7 H7} I7 n7 => by
      obtain ⟨m', hm, w7⟩ := hN σ7 H7 n7
      refine ⟨m', hm, i + 1, σ7, H7, I7.unpinned, T.keep _ _ _ st5 fun b hb o e => (I7.pin (b, o) (List.mem_append_right _ (List.mem_append_right _ (mem_pinsAt hb e)))).1, fun b hb => ?_, w7⟩
      obtain ⟨o, e, d⟩ := T.obj _ _ st5 b hb
      exact (I7.pin (b, o) (List.mem_append_right _ (List.mem_append_right _ (mem_pinsAt hb e)))).2.1
    cases f with
    | next => obtain ⟨σ7, H7, I7, n7⟩ := q7; exact again I7 n7
    | cont => obtain ⟨σ7, H7, I7, n7⟩ := q7; exact again I7 n7
    | brk => obtain ⟨σ7, H7, I7, q7⟩ := q7; exact ⟨σ7, H7, I7.unpinned, q7⟩
    | ret v => obtain ⟨x7, σ7, H7, I7, r7, q7⟩ := q7; exact ⟨x7, σ7, H7, I7.unpinned, r7, q7⟩
end
end L2
namespace L2
open PySem PySem.Spec PyProof.Rows
abbrev R2 := V → V → Hp → VK → Prop
def OpR (X : Cx) (f : Value → Value → Sem Value) (r : R2) : Prop :=
  ∀ (pins : List (Addr × Obj)) (s : Shared) (σ : St) (H : Hp) (x y : V) (v u : Value) (Q : VK), Inv X pins σ H s → RelV x v → RelV y u → r x y H Q →
    wpAny (model X.prog X.w) X.A (f v u) (EP X pins σ Q) X.xe s
def CallR (X : Cx) (f : Value) (r : List V → Hp → VK → Prop) : Prop :=
  ∀ (pins : List (Addr × Obj)) (s : Shared) (σ : St) (H : Hp) (xs : List V) (us : List Value) (Q : VK), Inv X pins σ H s → Vals xs us → r xs H Q →
    wpAny (model X.prog X.w) X.A (call f us) (EP X pins σ Q) X.xe s
def tOp (r : R2) (ta tb : TE) : TE := fun σ H Q => ta σ H fun x H1 => tb σ H1 fun y H2 => r x y H2 Q
def rI (C : Int → Int → Prop) (g : Int → Int → V) : R2 := fun x y H Q => ∃ i j, x = .int i ∧ y = .int j ∧ C i j ∧ Q (g i j) H
def rI0 (g : Int → Int → V) : R2 := fun x y H Q => ∃ i j, x = .int i ∧ y = .int j ∧ Q (g i j) H
section
variable {X : Cx} {a b c : Expr} {ta tb tc : TE} {pos : Pos}
theorem binT (ha : PE X a ta) (hb : PE X b tb) {pins : List (Addr × Obj)} {s : Shared} {σ : St} {H : Hp} {R : V → V → Hp → Prop} (I : Inv X pins σ H s)
    (h : ta σ H fun x H1 => tb σ H1 fun y H2 => R x y H2) {Q : Value → Shared → Prop} {f : Value → Value → Sem Value}
    (hf : ∀ v u s2 x y H2, Inv X pins σ H2 s2 → RelV x v → RelV y u → R x y H2 → wpAny (model X.prog X.w) X.A (f v u) Q X.xe s2) :
    wpAny (model X.prog X.w) X.A (eval a X.env) (fun v s₁ => wpAny (model X.prog X.w) X.A (eval b X.env) (fun u s₂ => wpAny (model X.prog X.w) X.A (f v u) Q X.xe s₂) X.xe s₁) X.xe s := by
  refine thn (ha pins s σ H _ I h) fun v s1 ⟨x, H1, I1, r1, q1⟩ => ?_
  refine thn (hb pins s1 σ H1 _ I1 q1) fun u s2 ⟨y, H2, I2, r2, q2⟩ => ?_
  exact hf v u s2 x y H2 I2 r1 r2 q2
theorem pe_op {op : Operator} {r : R2} (ho : OpR X (binaryOp op) r) (ha : PE X a ta) (hb : PE X b tb) : PE X (.BinOp a op b pos) (tOp r ta tb) := by
  intro pins s σ H Q I h
  exact wpAny_BinOp (binT ha hb I h fun v u s2 x y H2 I2 rx ry q => ho pins s2 σ H2 x y v u Q I2 rx ry q)
theorem opI {f : Value → Value → Sem Value} {C : Int → Int → Prop} {g : Int → Int → Int}
    (rule : ∀ (i j : Int) (t u : Tok) (s : Shared) (Q : Value → Shared → Prop) (E : Value → Shared → Prop), C i j → Q (.int (g i j) s.toks) { s with toks := s.toks + 1 } → wpAny (model X.prog X.w) X.A (f (.int i t) (.int j u)) Q E s) :
    OpR X f (rI C fun i j => .int (g i j)) := by
  intro pins s σ H x y v u Q I rx ry h
  obtain ⟨i, j, rfl, rfl, hc, q⟩ := h
  obtain ⟨t, rfl⟩ := rx
  obtain ⟨t', rfl⟩ := ry
  exact rule i j t t' s _ _ hc ⟨.int (g i j), H, I.tok _, ⟨_, rfl⟩, q⟩
theorem opI0 {f : Value → Value → Sem Value} {g : Int → Int → Int}
    (rule : ∀ (i j : Int) (t u : Tok) (s : Shared) (Q : Value → Shared → Prop) (E : Value → Shared → Prop), Q (.int (g i j) s.toks) { s with toks := s.toks + 1 } → wpAny (model X.prog X.w) X.A (f (.int i t) (.int j u)) Q E s) :
    OpR X f (rI0 fun i j => .int (g i j)) := by
  intro pins s σ H x y v u Q I rx ry h
  obtain ⟨i, j, rfl, rfl, q⟩ := h
  obtain ⟨t, rfl⟩ := rx
  obtain ⟨t', rfl⟩ := ry
  exact rule i j t t' s _ _ ⟨.int (g i j), H, I.tok _, ⟨_, rfl⟩, q⟩
theorem opB0 {f : Value → Value → Sem Value} {g : Int → Int → Bool}
    (rule : ∀ (i j : Int) (t u : Tok) (s : Shared) (Q : Value → Shared → Prop) (E : Value → Shared → Prop), Q (.bool (g i j)) s → wpAny (model X.prog X.w) X.A (f (.int i t) (.int j u)) Q E s) :
    OpR X f (rI0 fun i j => .bl (g i j)) := by
  intro pins s σ H x y v u Q I rx ry h
  obtain ⟨i, j, rfl, rfl, q⟩ := h
  obtain ⟨t, rfl⟩ := rx
  obtain ⟨t', rfl⟩ := ry
  exact rule i j t t' s _ _ ⟨.bl (g i j), H, I, rfl, q⟩
def CDiv (i j : Int) : Prop := 0 < j ∧ j < 1073741824
def CPow (i j : Int) : Prop := 0 ≤ j ∧ j ≤ 1000000 ∧ i.natAbs < 2 ^ 64
def CMul (i j : Int) : Prop := (-(2 ^ 64) < i ∧ i < 2 ^ 64) ∨ (-(2 ^ 64) < j ∧ j < 2 ^ 64)
theorem CMul.ok {i j : Int} (h : CMul i j) : IntMulOk i j := by
  rcases h with ⟨h1, h2⟩ | ⟨h1, h2⟩
  · exact .of_left (intBits_le_64 h1 h2)
  · exact .of_right (intBits_le_64 h1 h2)
theorem op_add : OpR X (binaryOp .Add) (rI0 fun i j => .int (i + j)) := opI0 fun _ _ _ _ _ _ _ q => add_int q
theorem op_sub : OpR X (binaryOp .Sub) (rI0 fun i j => .int (i - j)) := opI0 fun _ _ _ _ _ _ _ q => sub_int q
theorem op_mul : OpR X (binaryOp .Mult) (rI CMul fun i j => .int (i * j)) := opI fun _ _ _ _ _ _ _ hc q => mul_int q hc.ok
theorem op_fdiv : OpR X (binaryOp .FloorDiv) (rI CDiv fun i j => .int (i / j)) := opI fun i j _ _ _ _ _ hc q => by
  have h1 : (0 : Int) < j := hc.1
  have h2 : j < 1073741824 := hc.2
  exact floordiv_int (by omega) (by rw [Int.fdiv_eq_ediv_of_nonneg i (by omega)]; exact q) (.inl (PyProof.noPylong_small (by omega)))
theorem op_mod : OpR X (binaryOp .Mod) (rI (fun _ j => 0 < j) fun i j => .int (i % j)) := opI fun i j _ _ _ _ _ hc q => by
  have h1 : (0 : Int) < j := hc
  exact mod_int' (by omega) (by rw [Int.fmod_eq_emod_of_nonneg i (by omega)]; exact q)
theorem op_pow : OpR X (binaryOp .Pow) (rI CPow fun i j => .int (i ^ j.toNat)) := opI fun _ _ _ _ _ _ _ hc q => pow_int_small hc.1 hc.2.1 hc.2.2 q
end
section
variable {X : Cx} {a b c : Expr} {ta tb tc : TE} {pos : Pos}
theorem fin_bl {pins : List (Addr × Obj)} {σ : St} {H : Hp} {s : Shared} {Q : VK} {k k' : Bool} (I : Inv X pins σ H s) (q : Q (.bl k) H) (e : k = k') : EP X pins σ Q (.bool k') s := by
  subst e
  exact ⟨.bl k, H, I, rfl, q⟩
theorem op_lt : OpR X (compareOp .Lt) (rI0 fun i j => .bl (decide (i < j))) := opB0 fun _ _ _ _ _ _ _ q => lt_int q
theorem op_lt_str : OpR X (compareOp .Lt) (fun x y H Q => ∃ i j, x = .str i ∧ y = .str j ∧ Q (.bl (decide (i.cps.toList < j.cps.toList))) H) := by
  intro pins s σ H x y v u Q I rx ry h
  obtain ⟨i, j, rfl, rfl, q⟩ := h
  obtain ⟨t, rfl⟩ := rx
  obtain ⟨t', rfl⟩ := ry
  exact lt_str (fin_bl I q rfl)
theorem OpR.or {f : Value → Value → Sem Value} {r r' : R2} (h : OpR X f r) (h' : OpR X f r') : OpR X f (fun x y H Q => r x y H Q ∨ r' x y H Q) := by
  intro pins s σ H x y v u Q I rx ry q
  rcases q with q | q
  · exact h pins s σ H x y v u Q I rx ry q
  · exact h' pins s σ H x y v u Q I rx ry q
theorem nomark (b : Expr) {op : CmpOp} (h : op ≠ .In := by decide) (h2 : op ≠ .NotIn := by decide) : behindInMarks op b = false := by
  have e1 : (op == CmpOp.In) = false := by cases op <;> first | rfl | exact absurd rfl h
  have e2 : (op == CmpOp.NotIn) = false := by cases op <;> first | rfl | exact absurd rfl h2
  cases b <;> simp [behindInMarks, e1, e2]
theorem pe_cmpR {op : CmpOp} {r : R2} (ho : OpR X (compareOp op) r) (ha : PE X a ta) (hb : PE X b tb) (hm : behindInMarks op b = false) : PE X (.Compare a [op] [b] pos) (tOp r ta tb) := by
  intro pins s σ H Q I h
  exact wpAny_Compare1 (binT ha hb I h fun v u s2 x y H2 I2 rx ry q => ho pins s2 σ H2 x y v u Q I2 rx ry q) hm
def tTest (t : TE) : TT := fun σ H Q => t σ H fun x H' => ∃ k, x = .bl k ∧ Q k H'
theorem pt_cmpR {op : CmpOp} {r : R2} (ho : OpR X (compareOp op) r) (ha : PE X a ta) (hb : PE X b tb) (hm : behindInMarks op b = false) : PT X (.Compare a [op] [b] pos) (tTest (tOp r ta tb)) := by
  intro pins s σ H Q I h
  refine wpAny_isTrue_Compare1 (thn (ha pins s σ H _ I h) fun v s1 ⟨x, H1, I1, r1, q1⟩ => thn (hb pins s1 σ H1 _ I1 q1) fun u s2 ⟨y, H2, I2, r2, q2⟩ =>
    thn (ho pins s2 σ H2 x y v u _ I2 r1 r2 q2) fun c s3 ⟨z, H3, I3, r3, k, e, q3⟩ => ?_) hm
  subst e
  cases r3
  exact wpAny_truthy_bool ⟨H3, I3, q3⟩
theorem line63 : (sizeLine : Nat) < 2 ^ 63 := by rw [sizeLine_eq]; decide
theorem op_add_str : OpR X (binaryOp .Add) (fun x y H Q => ∃ i j, x = .str i ∧ y = .str j ∧ i.length + j.length ≤ sizeLine ∧ Q (.str (i ++ j)) H) := by
  intro pins s σ H x y v u Q I rx ry h
  obtain ⟨i, j, rfl, rfl, hz, q⟩ := h
  obtain ⟨t, rfl⟩ := rx
  obtain ⟨t', rfl⟩ := ry
  exact add_str (fun t' tk => ⟨.str (i ++ j), H, I.tok _, ⟨_, rfl⟩, q⟩) hz
theorem vals1 {x : V} {us : List Value} (r : Vals [x] us) : ∃ u, us = [u] ∧ RelV x u := by
  cases r with
  | cons r1 r2 => cases r2; exact ⟨_, rfl, r1⟩
end
end L2
namespace L2
open PySem PySem.Spec PyProof.Rows
structure ObjM (h : Heap) (x dx C : Addr) (mA : Str → Option Value) : Prop where
  obj : h.get? x = some (PySem.W.instObj C dx)
  ns : h.Ns1 dx mA
  ne : dx ≠ x
theorem lookIn_ns {h : Heap} {dx : Addr} {mA : Str → Option Value} (n : h.Ns1 dx mA) : ∃ od, h.get? dx = some od ∧ ∀ name, PySem.W.lookIn name od = some (mA name) := by
  obtain ⟨o, es, ep, ho, hd, hk, _, hm⟩ := n
  refine ⟨o, ho, fun name => ?_⟩
  have e := hm name
  unfold nsFind findBy at e
  rw [← Array.find?_toList] at e
  unfold PySem.W.lookIn
  rw [hd]
  dsimp only
  split
  · rename_i y q
    rw [q] at e
    exact congrArg some e
  · rename_i q
    rw [q] at e
    have a : es.toList.any (·.refKey) = false := by
      rw [List.any_eq_false]
      intro y hy
      obtain ⟨z, t, hkey⟩ := hk y (Array.mem_toList_iff.mp hy)
      simp [DictEntry.refKey, hkey]
    have a' : ¬ es.toList.any (·.refKey) = true := by rw [a]; exact Bool.false_ne_true
    rw [if_neg a']
    exact congrArg some e
theorem ObjM.look {h : Heap} {x dx C : Addr} {mA : Str → Option Value} (I : ObjM h x dx C mA) : ∃ od, PySem.W.InstAt h x (PySem.W.instObj C dx) C (some od) ∧ ∀ name, PySem.W.lookIn name od = some (mA name) :=
  let ⟨od, ho, hl⟩ := lookIn_ns I.ns
  ⟨od, ⟨I.obj, rfl, rfl, ho⟩, hl⟩
section
variable {prog : Program} {w : World} {A : Around} {E : Value → Shared → Prop} {s : Shared} {K : PySem.W.Frag} {x dx C f : Addr} {mA : Str → Option Value} {name : Str} {v : Value}
theorem get_map {expr : Bool} {Q : Value → Shared → Prop} (X : K.In s.heap) (I : ObjM s.heap x dx C mA) (hg : PySem.W.plainGet K C name = true) (hh : PySem.W.hasDictIn K C = true)
    (ha : PySem.W.findIn K (.ref C) name = some none) (hv : mA name = some v) (hv' : PySem.W.handedIn v = true) (h : Q v { s with toks := s.toks + 1 }) :
    wpAny (model prog w) A (getAttr (.ref x) name expr) Q E s := by
  obtain ⟨od, J, hl⟩ := I.look
  exact PySem.W.get_value X J (PySem.W.plainGet_of hg).1 (PySem.W.findObj_own hh ha rfl (by rw [hl, hv])) hv' h
theorem get_meth {pl : Sem Bool} {Q : Value × List Value → Shared → Prop} (X : K.In s.heap) (I : ObjM s.heap x dx C mA) (hg : PySem.W.plainGet K C name = true)
    (hf : PySem.W.findIn K (.ref C) name = some (some (.ref f))) (ht : PySem.W.isFn K (.ref f) = true) (hv : mA name = none) (h : Q (.ref f, [.ref x]) s) :
    wpAny (model prog w) A (getMethod (.ref x) name pl) Q E s := by
  obtain ⟨od, J, hl⟩ := I.look
  exact PySem.W.method_fn X J (PySem.W.plainGet_of hg).1 (PySem.W.plainGet_of hg).2 hf (beq_iff_eq.mp ht) (by show (PySem.W.lookIn name od).map (·.isSome) = some false; rw [hl, hv]; rfl) h
theorem set_map {ns : List Str} {Q : Unit → Shared → Prop} (X : K.In s.heap) (I : ObjM s.heap x dx C mA)
    (hs : PySem.W.findIn K (.ref C) "__setattr__" = some (some (.builtin "object.__setattr__"))) (hp : PySem.W.plainOver K C = true) (ht : PySem.W.takerIn K C name = some none) (hh : PySem.W.hasDictIn K C = true)
    (hw : PySem.Within mA ns) (hsz : ns.length ≤ sizeLine)
    (h : ∀ h', ObjM h' x dx C (fun y => if y = name then some v else mA y) → Heap.SameBut dx s.heap h' → Q () { s with heap := h', toks := s.toks + 2 }) :
    wpAny (model prog w) A (setAttr (.ref x) name v) Q E s := by
  obtain ⟨od, J, hl⟩ := I.look
  refine PySem.W.set_plain X J hs (PySem.W.osa_open (s := { s with toks := s.toks + 1 }) (r := none) X J hp ht fun b => ?_)
  obtain ⟨cd, hc, hd'⟩ := PySem.W.any_some hh
  have hx : s.heap.get? x = some ⟨.ref C, some dx, .plain, #[]⟩ := I.obj
  refine wpAny_bind (wpAny_pure (wpAny_bind (wpAny_bind (wpAny_loadPart hx (wpAny_bind (PySem.W.Looks.here (s := { s with toks := s.toks + 1 }) (PySem.W.looks_clsIn X hc) ?_))))))
  rw [hd']
  refine wpAny_pure (a := some dx) (wpAny_bind (wpAny_pure (wpAny_bind ?_)))
  refine wpAny_nsSet1 (s := { s with toks := s.toks + 1 }) I.ns fun h' hn2 hs2 => ?_
  obtain ⟨oD, esD, epD, hoD, hdD, hcD⟩ := hn2.count (PySem.Within.cons name v hw)
  refine wpAny_bind (wpAny_lookBehind hoD (by rw [hdD]; exact pastItsLine_dict (Nat.le_trans hcD (by rw [List.length_cons]; omega))) ?_)
  exact wpAny_pure (h _ ⟨(hs2.2 _ (Ne.symm I.ne)).trans I.obj, hn2, I.ne⟩ hs2)
theorem make_map {R : Result → Shared → Prop} {vs : List Value} {kw : List (Str × Value)} (X : K.In s.heap) (hm : PySem.W.makesIn K C = true)
    (hi : PySem.W.findIn K (.ref C) "__init__" = some (some (.ref f))) (hf : PySem.W.typeIn K (.ref f) = some (.type "function"))
    (h : codeAny (model prog w) (A.under (.builtin "type.__call__" ⟨.ref C :: vs, kw⟩)) (.call (.ref f) ⟨.ref (s.heap.objs.size + 1) :: vs, kw⟩) (PySem.W.InitBack (s.heap.objs.size + 1) R)
      { s with heap := (s.heap.push PySem.W.emptyDict).push (PySem.W.instObj C s.heap.objs.size) }) :
    codeAny (model prog w) A (.call (.ref C) ⟨vs, kw⟩) R s := by
  obtain ⟨hh, g, d, t, os⟩ := s
  exact PySem.W.make_core (PySem.W.makes_of X hm) (PySem.W.looks_findIn X hi) (fun self => PySem.W.bind_fn X self hf) (.inl rfl) h
end
def putF (f : Str) (v : V) : List (Str × V) → List (Str × V)
  | [] => [(f, v)]
  | (g, x) :: r => if g = f then (g, v) :: r else (g, x) :: putF f v r
theorem lookup_putF (f g : Str) (v : V) : ∀ fs : List (Str × V), (putF f v fs).lookup g = if g = f then some v else fs.lookup g
  | [] => by
    show List.lookup g [(f, v)] = _
    by_cases h : g = f
    · have hb : (g == f) = true := beq_iff_eq.mpr h
      simp only [List.lookup, hb, if_pos h]
    · have hb : (g == f) = false := beq_eq_false_iff_ne.mpr h
      simp only [List.lookup, hb, if_neg h]
  | (k, x) :: r => by
    have ih := lookup_putF f g v r
    rw [show putF f v ((k, x) :: r) = (if k = f then (k, v) :: r else (k, x) :: putF f v r) from rfl]
    by_cases hk : k = f
    · rw [if_pos hk]
      by_cases h : g = k
      · have hb : (g == k) = true := beq_iff_eq.mpr h
        simp only [List.lookup, hb, if_pos (h.trans hk)]
      · have hb : (g == k) = false := beq_eq_false_iff_ne.mpr h
        simp only [List.lookup, hb, if_neg (fun e : g = f => h (e.trans hk.symm))]
    · rw [if_neg hk]
      by_cases h : g = k
      · have hb : (g == k) = true := beq_iff_eq.mpr h
        simp only [List.lookup, hb, if_neg (fun e : g = f => hk (h.symm.trans e))]
      · have hb : (g == k) = false := beq_eq_false_iff_ne.mpr h
        simp only [List.lookup, hb]
        exact ih
theorem keys_putF (f : Str) (v : V) : ∀ fs : List (Str × V), f ∈ (putF f v fs).map (·.1) ∧ ∀ g, g ∈ fs.map (·.1) → g ∈ (putF f v fs).map (·.1)
  | [] => ⟨by simp [putF], fun g h => by simp at h⟩
  | (k, x) :: r => by
    obtain ⟨i1, i2⟩ := keys_putF f v r
    rw [show putF f v ((k, x) :: r) = (if k = f then (k, v) :: r else (k, x) :: putF f v r) from rfl]
    by_cases hk : k = f
    · rw [if_pos hk]
      subst hk
      exact ⟨by simp, fun g h => by simpa using h⟩
    · rw [if_neg hk]
      refine ⟨?_, fun g h => ?_⟩
      · rw [List.map_cons]
        exact List.mem_cons_of_mem _ i1
      · rw [List.map_cons] at h ⊢
        rcases List.mem_cons.mp h with e | e
        · exact List.mem_cons.mpr (.inl e)
        · exact List.mem_cons_of_mem _ (i2 g e)
theorem length_putF (f : Str) (v : V) : ∀ fs : List (Str × V), (putF f v fs).length ≤ fs.length + 1
  | [] => by simp [putF]
  | (k, x) :: r => by
    have ih := length_putF f v r
    rw [show putF f v ((k, x) :: r) = (if k = f then (k, v) :: r else (k, x) :: putF f v r) from rfl]
    by_cases hk : k = f
    · rw [if_pos hk, List.length_cons, List.length_cons]; omega
    · rw [if_neg hk, List.length_cons, List.length_cons]; omega
theorem RelO.some_of {v : V} {o : Option Value} (r : RelO (some v) o) : ∃ u, o = some u ∧ RelV v u := by
  cases o with
  | none => exact (show False from r).elim
  | some u => exact ⟨u, rfl, r⟩
theorem RelO.none_of {o : Option Value} (r : RelO none o) : o = none := by
  cases o with
  | none => rfl
  | some u => exact (show False from r).elim
theorem handed_of {v : V} {u : Value} (r : RelV v u) : PySem.W.handedIn u = true := by
  cases v with
  | non => cases (show u = Value.none from r); rfl
  | bl b => cases (show u = Value.bool b from r); rfl
  | int i => obtain ⟨t, e⟩ := (show ∃ t, u = Value.int i t from r); cases e; rfl
  | str x => obtain ⟨t, e⟩ := (show ∃ t, u = Value.str x t from r); cases e; rfl
  | byt b => obtain ⟨t, e⟩ := (show ∃ t, u = Value.bytes b t from r); cases e; rfl
  | flt b => obtain ⟨t, e⟩ := (show ∃ t, u = Value.float b t from r); cases e; rfl
  | ref a => cases (show u = Value.ref a from r); rfl
  | ty n => cases (show u = Value.type n from r); rfl
section
variable {P : Program} {w : World} {H H' : Hp} {h h' : Heap} {a C dx : Addr} {fs fs' : List (Str × V)}
theorem ins_get (hok : HOk P w H h) (e : H a = some (.ins C dx fs)) : ∃ mA, ObjM h a dx C mA ∧ (∀ f, RelO (fs.lookup f) (mA f)) ∧ PySem.Within mA (fs.map (·.1)) ∧ fs.length ≤ 1000 ∧ H dx = some (.own a) := by
  obtain ⟨d, z, ne, ob, mA, n, r, q⟩ := (show ObjOk P w H h a (.ins C dx fs) from hok a _ e)
  exact ⟨mA, ⟨ob, n, ne⟩, r, q, z, d⟩
end
structure Cls (K : PySem.W.Frag) (C : Addr) : Prop where
  pg : PySem.W.plainGet K C Str.empty = true
  hd : PySem.W.hasDictIn K C = true
  po : PySem.W.plainOver K C = true
  sa : PySem.W.findIn K (.ref C) "__setattr__" = some (some (.builtin "object.__setattr__"))
theorem Cls.get {K : PySem.W.Frag} {C : Addr} (c : Cls K C) (f : Str) : PySem.W.plainGet K C f = true := c.pg
def NoAttr (K : PySem.W.Frag) (C : Addr) (f : Str) : Prop := PySem.W.findIn K (.ref C) f = some none
theorem NoAttr.taker {K : PySem.W.Frag} {C : Addr} {f : Str} (n : NoAttr K C f) : PySem.W.takerIn K C f = some none := by
  unfold PySem.W.takerIn
  rw [show PySem.W.findIn K (.ref C) f = some none from n]
  rfl
structure Con (K : PySem.W.Frag) (C : Addr) (f : Str) (v : V) (u : Value) : Prop where
  at_ : PySem.W.findIn K (.ref C) f = some (some u)
  rel : RelV v u
  get : PySem.W.specialIn K u "__get__" = some none
  cp : PySem.W.copiedNames.contains f = false
structure Meth (K : PySem.W.Frag) (C : Addr) (m : Str) (f : Addr) : Prop where
  at_ : PySem.W.findIn K (.ref C) m = some (some (.ref f))
  fn : PySem.W.isFn K (.ref f) = true
  kp : PySem.W.keepIn K (.ref f) = true
section
variable {X : Cx} {pins : List (Addr × Obj)} {σ : St} {H : Hp} {s : Shared} {a C dx : Addr} {fs : List (Str × V)} {f : Str} {v : V} {A : Around} {E : Value → Shared → Prop}
theorem getattr_ok {b : Bool} {Q : Value → Shared → Prop} (I : Inv X pins σ H s) (e : H a = some (.ins C dx fs)) (c : Cls X.K C) (n : NoAttr X.K C f) (l : fs.lookup f = some v)
    (h : ∀ u s', Inv X pins σ H s' → RelV v u → Q u s') : wpAny (model X.prog X.w) A (getAttr (.ref a) f b) Q E s := by
  obtain ⟨mA, O, r, _, _, _⟩ := ins_get I.hok e
  obtain ⟨u, hu, ru⟩ := RelO.some_of (v := v) (o := mA f) (by rw [← l]; exact r f)
  exact get_map I.kIn O (c.get f) c.hd n hu (handed_of ru) (h u _ (I.tok _) ru)
theorem getmeth_ok {m : Str} {g : Addr} {pl : Sem Bool} {Q : Value × List Value → Shared → Prop} (I : Inv X pins σ H s) (e : H a = some (.ins C dx fs)) (c : Cls X.K C) (k : Meth X.K C m g) (l : fs.lookup m = none)
    (h : Q (.ref g, [.ref a]) s) : wpAny (model X.prog X.w) A (getMethod (.ref a) m pl) Q E s := by
  obtain ⟨mA, O, r, _, _, _⟩ := ins_get I.hok e
  have hn : mA m = none := RelO.none_of (by rw [← l]; exact r m)
  exact get_meth I.kIn O (c.get m) k.at_ k.fn hn h
theorem setattr_ok {y : V} {u : Value} {Q : Unit → Shared → Prop} (I : Inv X pins σ H s) (e : H a = some (.ins C dx fs)) (c : Cls X.K C) (n : NoAttr X.K C f) (hl : fs.length < 1000) (ry : RelV y u)
    (h : ∀ s', Inv X pins σ (upd H a (.ins C dx (putF f y fs))) s' → Q () s') : wpAny (model X.prog X.w) A (setAttr (.ref a) f u) Q E s := by
  obtain ⟨mA, O, r, wi, _, ho⟩ := ins_get I.hok e
  have hz : (fs.map (·.1)).length ≤ sizeLine := by rw [List.length_map, sizeLine_eq]; omega
  refine set_map I.kIn O c.sa c.po n.taker c.hd wi hz fun h' O' sb => h _ ?_
  have hd : ∃ o, h'.get? dx = some o := let ⟨o, _, _, e', _⟩ := O'.ns; ⟨o, e'⟩
  refine I.write (x := a) (e := dx) (by rw [e]; exact True.intro) (.inr ho) (fun b q hb z => (sb.2 b hb).trans z) hd ?_
  refine ⟨by rw [upd_ne O.ne]; exact ho, ?_, O.ne, O'.obj, _, O'.ns, fun g => ?_, fun g hg => ?_⟩
  · have := length_putF f y fs; omega
  · show RelO ((putF f y fs).lookup g) (if g = f then some u else mA g)
    rw [lookup_putF]
    by_cases q : g = f
    · rw [if_pos q, if_pos q]; exact ry
    · rw [if_neg q, if_neg q]; exact r g
  · by_cases q : g = f
    · rw [q]; exact (keys_putF f y fs).1
    · refine (keys_putF f y fs).2 g (wi g fun z => hg ?_)
      show (if g = f then some u else mA g) = none
      rw [if_neg q]; exact z
theorem Inv.made (I : Inv X pins σ H s) : Inv X pins σ (upd (upd H s.heap.objs.size (.own (s.heap.objs.size + 1))) (s.heap.objs.size + 1) (.ins C s.heap.objs.size []))
    { s with heap := (s.heap.push PySem.W.emptyDict).push (PySem.W.instObj C s.heap.objs.size) } := by
  have e1 : (s.heap.push PySem.W.emptyDict).get? s.heap.objs.size = some PySem.W.emptyDict := Heap.get?_push_size s.heap rfl
  have e2 : ((s.heap.push PySem.W.emptyDict).push (PySem.W.instObj C s.heap.objs.size)).get? (s.heap.objs.size + 1) = some (PySem.W.instObj C s.heap.objs.size) := by
    have := Heap.get?_push_size (s.heap.push PySem.W.emptyDict) (o := PySem.W.instObj C s.heap.objs.size) rfl
    rwa [Heap.size_push] at this
  have e3 : (s.heap.push PySem.W.emptyDict).Ns s.heap.objs.size (fun _ => none) := ⟨PySem.W.emptyDict, #[], _, e1, rfl, (fun e he => absurd he (by simp)), fun _ => rfl⟩
  have I1 := I.laid (a := s.heap.objs.size) (o := .own (s.heap.objs.size + 1)) (h' := s.heap.push PySem.W.emptyDict) (t' := s.toks) (fun b u q => Heap.get?_push_of_some _ q) (Nat.le_refl _) ⟨_, e1⟩
  refine I1.laid (a := s.heap.objs.size + 1) (o := .ins C s.heap.objs.size []) (t' := s.toks) (fun b u q => Heap.get?_push_of_some _ q) (Nat.le_of_eq (Heap.size_push _ _)) ?_
  have ne : s.heap.objs.size ≠ s.heap.objs.size + 1 := Nat.ne_of_lt (Nat.lt_succ_self _)
  refine ⟨by rw [upd_ne ne, upd_same], Nat.zero_le _, ne, e2, fun _ => none, (Heap.Ns1.of_empty e3).at fun o q => Heap.get?_push_of_some _ q, fun _ => True.intro, fun y hy => absurd rfl hy⟩
theorem attr_of {prog : Program} {w : World} {env : Env} {e : Expr} {f : Str} {pos : Pos} {s : Shared} {Q : Value → Shared → Prop} (hb : attributeBase e f env (eval e env) = eval e env)
    (h : wpAny (model prog w) A (eval e env) (fun o s₁ => wpAny (model prog w) A (getAttr o f true) Q E s₁) E s) : wpAny (model prog w) A (eval (.Attribute e f pos) env) Q E s :=
  Attribute_any_ h (by rw [arm_eval_Attribute, hb])
end
def tFld (K : PySem.W.Frag) (ta : TE) (f : Str) : TE := fun σ H Q => ta σ H fun x H1 => ∃ a C dx fs v, x = .ref a ∧ H1 a = some (.ins C dx fs) ∧ Cls K C ∧ NoAttr K C f ∧ fs.lookup f = some v ∧ Q v H1
def sFld (K : PySem.W.Frag) (ta tv : TE) (f : Str) : TS := fun D σ H => tv σ H fun y H1 => ta σ H1 fun x H2 => ∃ a C dx fs, x = .ref a ∧ H2 a = some (.ins C dx fs) ∧ Cls K C ∧ NoAttr K C f ∧ fs.length < 1000 ∧
  D.nx σ (upd H2 a (.ins C dx (putF f y fs)))
section
variable {X : Cx} {o e value : Expr} {f : Str} {pos pos' tpos : Pos} {ta tv : TE}
theorem pe_fld (he : PE X e ta) (hb : attributeBase e f X.env (eval e X.env) = eval e X.env) : PE X (.Attribute e f pos) (tFld X.K ta f) := by
  intro pins s σ H Q I h
  refine attr_of hb (thn (he pins s σ H _ I h) fun u s1 ⟨x, H1, I1, rx, a, C, dx, fs, v, ex, ea, c, n, l, q⟩ => ?_)
  subst ex
  obtain rfl : u = Value.ref a := rx
  exact getattr_ok I1 ea c n l fun u' s2 I2 ru => ⟨v, H1, I2, ru, q⟩
theorem ps_fld (ha : PE X o ta) (hv : PE X value tv) (hs : swapsWith value (some (.Attribute o f pos')) pos.line X.env = pure false) : PS X (.Assign [.Attribute o f pos'] value pos) (sFld X.K ta tv f) := by
  intro pins s σ H D I h
  refine plainObj_wpAny_Assign_Attribute (thn (hv pins s σ H _ I h) fun u s1 ⟨y, H1, I1, ry, q⟩ => thn (ha pins s1 σ H1 _ I1 q) fun ov s2 ⟨x, H2, I2, rx, a, C, dx, fs, ex, ea, c, n, l, q2⟩ => ?_) hs
  subst ex
  obtain rfl : ov = Value.ref a := rx
  exact setattr_ok I2 ea c n l ry fun s3 I3 => ⟨σ, _, I3, q2⟩
end
section
variable {X : Cx} {pins : List (Addr × Obj)} {σ : St} {H : Hp} {s : Shared} {A : Around} {E : Value → Shared → Prop} {Q : Value → Shared → Prop} {c : Value} {b : Bool}
inductive TyOf (K : PySem.W.Frag) (H : Hp) : V → Value → Prop where
  | non : TyOf K H .non (.type "NoneType")
  | bl (x : Bool) : TyOf K H (.bl x) (.type "bool")
  | int (i : Int) : TyOf K H (.int i) (.type "int")
  | str (x : Str) : TyOf K H (.str x) (.type "str")
  | flt (x : UInt64) : TyOf K H (.flt x) (.type "float")
  | lst {a : Addr} {xs : List V} (e : H a = some (.lst xs)) : TyOf K H (.ref a) (.type "list")
  | frz {a : Addr} {o : Obj} {xs : List V} (e : H a = some (.frz o (.lst xs))) : TyOf K H (.ref a) (.type "list")
  | tup {a : Addr} {xs : List V} (e : H a = some (.tup xs)) : TyOf K H (.ref a) (.type "tuple")
  | dK {a : Addr} {kvs : List (Key × V)} (e : H a = some (.dK kvs)) : TyOf K H (.ref a) (.type "dict")
  | dT {a : Addr} {kvs : List (List Key × V)} (e : H a = some (.dT kvs)) : TyOf K H (.ref a) (.type "dict")
  | ins {a C dx : Addr} {fs : List (Str × V)} (e : H a = some (.ins C dx fs)) (cl : Cls K C) (ha : PySem.W.findIn K (.ref C) "__class__" = some (some (.builtin "object.__class__")))
      (hn : PySem.W.specialIn K (.builtin "object.__class__") "__get__" = some (some (.builtin "getset_descriptor.__get__"))) (htk : PySem.W.takesIn K (.builtin "object.__class__") = some true)
      (hm : PySem.W.mroIn K C (.type "object") = some true) : TyOf K H (.ref a) (.ref C)
end
end L2
namespace L2
open PySem PySem.Spec PyProof.Rows
structure Room (k : Nat) (A : Around) : Prop where
  hd : A.handled = none
  dp : A.depth + 3 * k + 5 < recursionLimit
  un : A.units + 16 * k + 200 < cLine
theorem Room.mono {j k : Nat} {A : Around} (r : Room k A) (h : j ≤ k) : Room j A := ⟨r.hd, by have := r.dp; omega, by have := r.un; omega⟩
theorem Room.deeper {k : Nat} {A : Around} (r : Room (k + 1) A) (env : Env) : Room k (A.deeper env) :=
  ⟨r.hd, by have := r.dp; show A.depth + 1 + 3 * k + 5 < _; omega, by have := r.un; show A.units + 3 + 16 * k + 200 < _; omega⟩
theorem Room.in1 {k : Nat} {A : Around} (r : Room (k + 1) A) : Room k A.in1 :=
  ⟨r.hd, by have := r.dp; show A.depth + 3 * k + 5 < _; omega, by have := r.un; show A.units + 1 + 16 * k + 200 < _; omega⟩
theorem make_depth {A : Around} {C : Addr} {us : List Value} {kw : List (Str × Value)} : (A.under (.builtin "type.__call__" ⟨.ref C :: us, kw⟩)).depth = A.depth + 1 := by
  first | rfl | simp [Around.under, Code.weight, Code.isCreation, Code.isGuard, Code.isCaller, Code.frames, Code.isFrame, guardIds]
theorem make_units {A : Around} {C : Addr} {us : List Value} {kw : List (Str × Value)} : (A.under (.builtin "type.__call__" ⟨.ref C :: us, kw⟩)).units = A.units + 1 := by
  first | rfl | simp [Around.under, Code.cUnits, Code.frames, Code.isFrame]
theorem Room.make {k : Nat} {A : Around} (r : Room (k + 1) A) (C : Addr) (us : List Value) (kw : List (Str × Value)) : Room k (A.under (.builtin "type.__call__" ⟨.ref C :: us, kw⟩)) :=
  ⟨r.hd, by have := r.dp; rw [make_depth]; omega, by have := r.un; rw [make_units]; omega⟩
theorem Room.depth {k : Nat} {A : Around} (r : Room k A) : A.depth < recursionLimit := by have := r.dp; omega
theorem Room.units {k : Nat} {A : Around} (r : Room k A) : A.units + 64 < cLine := by have := r.un; omega
def tNil : TA := fun _ H Q => Q [] H
def tCons (ta : TE) (tr : TA) : TA := fun σ H Q => ta σ H fun x H1 => tr σ H1 fun xs H2 => Q (x :: xs) H2
section
variable {X : Cx} {e : Expr} {es : List Expr} {te : TE} {t : TA} {pos : Pos}
theorem pa_nil : PA X [] tNil := fun _ _ _ _ H Q I h => Calls.spliced_nil ⟨[], H, I, .nil, h⟩
theorem pa_cons (ha : PE X e te) (hr : PA X es t) (hs : starEach (e :: es) X.env = (false, eval e X.env) :: starEach es X.env := by rfl) : PA X (e :: es) (tCons te t) := by
  intro pos pins s σ H Q I h
  rw [hs]
  show wpAny _ _ (spliced ((false, eval e X.env) :: backTo pos (starEach es X.env))) _ _ s
  refine Calls.spliced_cons (thn (ha pins s σ H _ I h) fun u s1 ⟨x, H1, I1, r1, q1⟩ => ?_)
  exact thn (hr pos pins s1 σ H1 _ I1 q1) fun us s2 ⟨xs, H2, I2, r2, q2⟩ => ⟨x :: xs, H2, I2, .cons r1 r2, q2⟩
def tTup (t : TA) : TE := fun σ H Q => t σ H fun xs H1 => xs.length ≤ sizeLine ∧ ∀ p, H1 p = none → Q (.ref p) (upd H1 p (.tup xs))
def tLst (t : TA) : TE := fun σ H Q => t σ H fun xs H1 => xs.length ≤ sizeLine ∧ ∀ p, H1 p = none → Q (.ref p) (upd H1 p (.lst xs))
theorem pe_tup {x1} (h : PA X es t) : PE X (.Tuple es x1 pos) (tTup t) := by
  intro pins s σ H Q I hq
  refine wpAny_Tuple_spliced (thn (h pos pins s σ H _ I hq) fun us s1 ⟨xs, H1, I1, r, z, q⟩ => ⟨by rw [← r.length]; exact z, ?_⟩)
  have hf : H1 s1.heap.objs.size = none := I1.hok.fresh (Nat.le_refl _)
  refine ⟨.ref s1.heap.objs.size, upd H1 s1.heap.objs.size (.tup xs), I1.laid (t' := s1.toks) (fun b u e => Heap.get?_push_of_some _ e) (Nat.le_refl _) ?_, rfl, q _ hf⟩
  exact ⟨z, us, r, ⟨_, Heap.get?_push_size _ rfl, rfl, _, rfl⟩⟩
theorem pe_lst (h : PA X es t) : PE X (.List es pos) (tLst t) := by
  intro pins s σ H Q I hq
  refine wpAny_List_spliced (thn (h pos pins s σ H _ I hq) fun us s1 ⟨xs, H1, I1, r, z, q⟩ => ⟨by rw [← r.length]; exact z, ?_⟩)
  have hf : H1 s1.heap.objs.size = none := I1.hok.fresh (Nat.le_refl _)
  refine ⟨.ref s1.heap.objs.size, upd H1 s1.heap.objs.size (.lst xs), I1.laid (t' := s1.toks) (fun b u e => Heap.get?_push_of_some _ e) (Nat.le_refl _) ?_, rfl, q _ hf⟩
  exact ⟨z, us, 0, r, Heap.get?_push_size _ rfl⟩
end
abbrev Sp := List V → Hp → VK → XK → Prop
abbrev CXT := List Env → Hp → Shared → XK → Value → Shared → Prop
structure Env0 (P : Program) (w : World) (K : PySem.W.Frag) (mg : Str → Option Value) (base : Heap) (A : Around) (outer : List Env) (s : Shared) (H : Hp) : Prop where
  frames : A.frames = some outer
  mod : Mod K mg base
  bs : ∀ b o, base.get? b = some o → s.heap.get? b = some o ∧ H b = none
  bsz : base.objs.size ≤ s.heap.objs.size
  funs : s.heap.FunFrames base outer
  frf : ∀ b ∈ frs outer, H b = none
  hok : HOk P w H s.heap
  bare : AllBare s.gens
def CE (outer : List Env) (P : Program) (w : World) (H : Hp) (s : Shared) (Q : VK) (u : Value) (s' : Shared) : Prop :=
  ∃ v H', s'.os = s.os ∧ AllBare s'.gens ∧ Un (frs outer) [] H H' s.heap s'.heap ∧ HOk P w H' s'.heap ∧ RelV v u ∧ Q v H'
def CR (CX : CXT) (outer : List Env) (P : Program) (w : World) (H : Hp) (s : Shared) (Q : VK) (E : XK) (r : Result) (s' : Shared) : Prop :=
  match r with
  | .ok (.ret u) => CE outer P w H s Q u s'
  | .ok _ => False
  | .error e => CX outer H s E e s'
structure FnOk (P : Program) (w : World) (K : PySem.W.Frag) (mg : Str → Option Value) (base : Heap) (CX : CXT) (k : Nat) (f : Addr) (fd : FuncData) (ps : List Str) (sp : Sp) : Prop where
  len : ∀ vs H Q E, sp vs H Q E → vs.length = ps.length
  run : ∀ (A : Around) (outer : List Env) (s : Shared) (H : Hp) (args : Args) (us : List Value) (vs : List V) (Q : VK) (E : XK), Room k A → Env0 P w K mg base A outer s H → BindsTo s fd args (ps.zip us) → Vals vs us → sp vs H Q E →
    codeAny (model P w) A (.call (.ref f) args) (CR CX outer P w H s Q E) s
theorem FnOk.mono {P : Program} {w : World} {K : PySem.W.Frag} {mg : Str → Option Value} {base : Heap} {CX : CXT} {j k : Nat} {f : Addr} {fd : FuncData} {ps : List Str} {sp : Sp} (F : FnOk P w K mg base CX j f fd ps sp) (h : j ≤ k) :
    FnOk P w K mg base CX k f fd ps sp := ⟨F.len, fun A outer s H args us vs Q E hr => F.run A outer s H args us vs Q E (hr.mono h)⟩
theorem FnOk.imp {P : Program} {w : World} {K : PySem.W.Frag} {mg : Str → Option Value} {base : Heap} {CX : CXT} {k : Nat} {f : Addr} {fd : FuncData} {ps : List Str} {sp sp' : Sp} (F : FnOk P w K mg base CX k f fd ps sp)
    (h : ∀ vs H Q E, sp' vs H Q E → sp vs H Q E) : FnOk P w K mg base CX k f fd ps sp' :=
  ⟨fun vs H Q E q => F.len vs H Q E (h _ _ _ _ q), fun A outer s H args us vs Q E hr he hb hv hs => F.run A outer s H args us vs Q E hr he hb hv (h _ _ _ _ hs)⟩
theorem Env0.make {P : Program} {w : World} {K : PySem.W.Frag} {mg : Str → Option Value} {base : Heap} {A : Around} {outer : List Env} {s : Shared} {H : Hp} (e : Env0 P w K mg base A outer s H) (C : Addr) (us : List Value) (kw : List (Str × Value)) :
    Env0 P w K mg base (A.under (.builtin "type.__call__" ⟨.ref C :: us, kw⟩)) outer s H := ⟨by first | exact e.frames | (simpa [Around.under, Code.envs, Code.isFrame, pushEnvs] using e.frames), e.mod, e.bs, e.bsz, e.funs, e.frf, e.hok, e.bare⟩
theorem Env0.in1 {P : Program} {w : World} {K : PySem.W.Frag} {mg : Str → Option Value} {base : Heap} {A : Around} {outer : List Env} {s : Shared} {H : Hp} (e : Env0 P w K mg base A outer s H) :
    Env0 P w K mg base A.in1 outer s H := ⟨e.frames, e.mod, e.bs, e.bsz, e.funs, e.frf, e.hok, e.bare⟩
section
variable {X : Cx} {pins : List (Addr × Obj)} {σ : St} {H : Hp} {s s' : Shared}
theorem Inv.env0 (I : Inv X pins σ H s) : Env0 X.prog X.w X.K X.mg X.base X.A X.stack s H :=
  ⟨I.ok.frames, I.ok.mod, I.bs, Nat.le_trans I.ok.bsz I.sz, I.stack, I.stkFree, I.hok, I.bare⟩
theorem Inv.after {Q : VK} {u : Value} (I : Inv X pins σ H s) (h : CE X.stack X.prog X.w H s Q u s') : EP X pins σ Q u s' := by
  obtain ⟨v, H', os, bare, un, hok, r, q⟩ := h
  obtain ⟨hh, g, d, t, os'⟩ := s'
  obtain rfl : os' = s.os := os
  exact ⟨v, H', I.call (h' := hh) (g' := g) (d' := d) (t' := t) (ch := []) un hok bare (fun b z => absurd z (by simp)), r, q⟩
end
def Binds (K : PySem.W.Frag) (fd : FuncData) (ps : List Str) (ds : List Value) : Prop :=
  ∀ (s : Shared) (us : List Value), K.In s.heap → (us ++ ds).length = ps.length → BindsTo s fd ⟨us, []⟩ (ps.zip (us ++ ds))
theorem Binds.all {K : PySem.W.Frag} {fd : FuncData} {ps : List Str} (h : ∀ us : List Value, us.length = ps.length → bindArgs fd ⟨us, []⟩ = pure (ps.zip us)) : Binds K fd ps [] := fun s us _ hl => by
  rw [List.append_nil] at hl ⊢
  exact .of_eq (h us hl)
section
variable {X : Cx} {CX : CXT} {k : Nat} {f C : Addr} {fd : FuncData} {ps : List Str} {sp : Sp} {dvs : List V} {ds : List Value} {E : XK} {x m : Str} {p pos apos : Pos} {e o : Expr} {es : List Expr} {ta : TE} {t : TA}
structure Mk (K : PySem.W.Frag) (C f : Addr) : Prop where
  makes : PySem.W.makesIn K C = true
  init : PySem.W.findIn K (.ref C) "__init__" = some (some (.ref f))
  fn : PySem.W.isFn K (.ref f) = true
  kp : PySem.W.keepIn K (.ref C) = true
end
section
variable {X : Cx} {CX : CXT} {k : Nat} {f C : Addr} {fd : FuncData} {ps ks : List Str} {sp : Sp} {E : XK} {x m : Str} {p pos apos kpos : Pos} {e o : Expr} {es : List Expr} {kws : List Keyword} {te ta : TE} {t tk : TA} {nm : Option Str}
structure KBinds (K : PySem.W.Frag) (fd : FuncData) (ps ks : List Str) (g : List Value → List Value → List Value) (gV : List V → List V → List V) : Prop where
  to : ∀ (s : Shared) (us ws : List Value), K.In s.heap → (g us ws).length = ps.length → BindsTo s fd ⟨us, ks.zip ws⟩ (ps.zip (g us ws))
  rel : ∀ {vs : List V} {us : List Value} {zs : List V} {ws : List Value}, Vals vs us → Vals zs ws → Vals (gV vs zs) (g us ws)
variable {g : List Value → List Value → List Value} {gV : List V → List V → List V}
end
structure FnScope (N P : List Str) (sc : Scope) : Prop where
  kind : sc.kind = .function
  co : sc.isCoroutine = false
  gen : sc.isGenerator = false
  nd : N.Nodup
  pre : N.take P.length = P
  par : ∀ x ∈ P, sc.names.lookup x = some .local ∨ sc.names.lookup x = some .cell
  nofree : ∀ y ∈ sc.names, y.2 ≠ .free
theorem bindL_out {kindOf : Str → Option NameKind} {x : Str} : ∀ {binds : List (Str × Value)} {m : Str → Option Value}, (∀ v, (x, v) ∉ binds) → bindL kindOf binds m x = m x
  | [], _, _ => rfl
  | (n, v) :: r, m, h => by
    unfold bindL
    rw [bindL_out fun w hw => h w (List.mem_cons_of_mem _ hw)]
    split
    · have : x ≠ n := by rintro rfl; exact h v List.mem_cons_self
      simp [this]
    · rfl
theorem bindC_out {kindOf : Str → Option NameKind} {x : Str} : ∀ {binds : List (Str × Value)} {m : Str → Option Value}, (∀ v, (x, v) ∉ binds) → bindC kindOf binds m x = m x
  | [], _, _ => rfl
  | (n, v) :: r, m, h => by
    unfold bindC
    rw [bindC_out fun w hw => h w (List.mem_cons_of_mem _ hw)]
    split
    · rfl
    · have : x ≠ n := by rintro rfl; exact h v List.mem_cons_self
      simp [this]
theorem bindL_get {kindOf : Str → Option NameKind} {x : Str} {v : Value} : ∀ {P : List Str} {vs : List Value} {i : Nat} {m : Str → Option Value}, P.Nodup → P[i]? = some x → vs[i]? = some v → kindOf x = some .local →
    bindL kindOf (P.zip vs) m x = some v
  | [], _, _, _, _, h, _, _ => by simp at h
  | _ :: _, [], _, _, _, _, h, _ => by simp at h
  | p :: P, w :: vs, 0, m, nd, h1, h2, hk => by
    simp at h1 h2; subst h1; subst h2
    show bindL kindOf ((p, w) :: P.zip vs) m p = _
    unfold bindL
    rw [bindL_out fun v hv => (List.nodup_cons.mp nd).1 (List.of_mem_zip hv).1, if_pos hk]
    simp
  | p :: P, w :: vs, i + 1, m, nd, h1, h2, hk => by
    show bindL kindOf ((p, w) :: P.zip vs) m x = _
    unfold bindL
    exact bindL_get (i := i) (List.nodup_cons.mp nd).2 (by simpa using h1) (by simpa using h2) hk
theorem bindC_get {kindOf : Str → Option NameKind} {x : Str} {v : Value} : ∀ {P : List Str} {vs : List Value} {i : Nat} {m : Str → Option Value}, P.Nodup → P[i]? = some x → vs[i]? = some v → kindOf x ≠ some .local →
    bindC kindOf (P.zip vs) m x = some v
  | [], _, _, _, _, h, _, _ => by simp at h
  | _ :: _, [], _, _, _, _, h, _ => by simp at h
  | p :: P, w :: vs, 0, m, nd, h1, h2, hk => by
    simp at h1 h2; subst h1; subst h2
    show bindC kindOf ((p, w) :: P.zip vs) m p = _
    unfold bindC
    rw [bindC_out fun v hv => (List.nodup_cons.mp nd).1 (List.of_mem_zip hv).1, if_neg hk]
    simp
  | p :: P, w :: vs, i + 1, m, nd, h1, h2, hk => by
    show bindC kindOf ((p, w) :: P.zip vs) m x = _
    unfold bindC
    exact bindC_get (i := i) (List.nodup_cons.mp nd).2 (by simpa using h1) (by simpa using h2) hk
def start (N : List Str) (vs : List V) : St := vs.map some ++ List.replicate (N.length - vs.length) none
def cxOf (CX : CXT) (P : Program) (w : World) (K : PySem.W.Frag) (mg : Str → Option Value) (base : Heap) (N : List Str) (qual : Str) (scope : Scope) (f : Addr) (cd : Value) (A : Around) (outer : List Env) (s : Shared) (H : Hp) (E : XK) : Cx where
  prog := P
  w := w
  K := K
  mg := mg
  base := base
  A := A.deeper (envOfC qual scope s.heap.objs.size f cd)
  N := N
  s₀ := s
  H₀ := H
  env := envOfC qual scope s.heap.objs.size f cd
  outer := outer
  stack := envOfC qual scope s.heap.objs.size f cd :: outer
  ex := []
  calm := true
  fn := fun _ => true
  pn := []
  xe := fun e s' => wpAny (model P w) (A.deeper (envOfC qual scope s.heap.objs.size f cd)) (leaving (envOfC qual scope s.heap.objs.size f cd) e) (fun _ s'' => CX outer H s E e s'') (fun e' s'' => CX outer H s E e' s'') s'
theorem cell_has {sc : Scope} {n : Nat} {x : Str} (h : sc.names.lookup x = some .cell) : ∃ c, (cellsFrom n sc.names []).lookup x = some c := by
  have q := PySem.W.cellsFrom_some sc.names n [] (.inl h)
  exact Option.isSome_iff_exists.mp q
theorem inv_start {CX : CXT} {P : Program} {w : World} {K : PySem.W.Frag} {mg : Str → Option Value} {base : Heap} {N ps : List Str} {qual : Str} {scope : Scope} {f : Addr} {cd : Value} {A : Around} {outer : List Env} {s s1 : Shared} {H : Hp} {E : XK} {us : List Value} {vs : List V}
    (S : FnScope N ps scope) (hd : A.handled = none) (e0 : Env0 P w K mg base A outer s H) (hl : vs.length = ps.length) (r : Vals vs us)
    (x : InCallC s s.heap.objs.size (bindL (envOfC qual scope s.heap.objs.size f cd).kindOf (ps.zip us) fun _ => none) (cellsFrom (s.heap.objs.size + 1) scope.names []) (bindC (envOfC qual scope s.heap.objs.size f cd).kindOf (ps.zip us) fun _ => none) s1) :
    Inv (cxOf CX P w K mg base N qual scope f cd A outer s H E) [] (start N vs) H s1 := by
  have hpl : ps.length ≤ N.length := by have := congrArg List.length S.pre; rw [List.length_take] at this; omega
  obtain ⟨h1, tk, rfl, hk⟩ := x.done
  have noA : ∀ b : Addr, b ∉ (cxOf CX P w K mg base N qual scope f cd A outer s H E).ex := fun b z => absurd (show b ∈ ([] : List Addr) from z) (by simp)
  refine ⟨⟨e0.mod, S.kind, rfl, rfl, Nat.le_refl _, fun y z c h1 h2 => ?_, fun y hy => ?_, fun y c _ h => ?_, fun _ => hd, Around.frames_deeper e0.frames, .inr ⟨rfl, rfl⟩, fun b z => absurd z (noA b), e0.bs, e0.bsz, fun b _ _ => noA b, fun b z => absurd z (noA b), e0.funs, e0.frf⟩,
    rfl, e0.bare, Un.kept hk, ⟨_, x.toInCall.ns, fun i y v h1 h2 h3 => ?_⟩, fun y c h => ⟨_, x.cell y c h⟩, e0.hok.fresh (Nat.le_refl _), fun y c h => ?_, fun p hp => absurd (show p ∈ ([] : List (Addr × Obj)) from hp) (by simp), e0.hok.kept hk, ?_⟩
  · exact name_of_addr x.apart (PySem.mem_of_lookup h1) (PySem.mem_of_lookup h2)
  · have hy : scope.names.lookup y = some .cell ∨ scope.names.lookup y = some .free := hy
    rcases hy with hy | hy
    · exact cell_has hy
    · exact absurd rfl (S.nofree _ (PySem.mem_of_lookup hy))
  · exact Nat.le_of_lt (x.above y c (PySem.mem_of_lookup h))
  · have hi : i < vs.length := by
      unfold start at h2
      by_cases hi : i < vs.length
      · exact hi
      · rw [List.getElem?_append_right (by simpa using hi)] at h2
        rw [List.getElem?_replicate] at h2
        split at h2 <;> cases h2
    have ha : vs[i]? = some v := by
      unfold start at h2
      rw [List.getElem?_append_left (by simpa using hi), List.getElem?_map] at h2
      cases e : vs[i]? with
      | none => rw [e] at h2; cases h2
      | some a => rw [e] at h2; cases h2; rfl
    obtain ⟨u, hu, rv⟩ := r.get ha
    have hp : ps[i]? = some y := by
      rw [← S.pre, List.getElem?_take_of_lt (by omega)]; exact h1
    have ndP : ps.Nodup := by rw [← S.pre]; exact S.nd.sublist (List.take_sublist _ _)
    refine ⟨u, rv, ?_⟩
    rcases S.par y (List.mem_of_getElem? hp) with k | k
    · exact .inl ⟨k, bindL_get ndP hp hu k⟩
    · obtain ⟨c, e⟩ := cell_has (n := s.heap.objs.size + 1) k
      refine .inr ⟨.inl k, c, e, ?_⟩
      have q := x.cell y c e
      rw [bindC_get ndP hp hu (by show scope.names.lookup y ≠ _; rw [k]; decide)] at q
      exact q
  · exact e0.hok.fresh (Nat.le_of_lt (x.above y c (PySem.mem_of_lookup h)))
  · unfold start
    show _ = N.length
    rw [List.length_append, List.length_map, List.length_replicate]
    omega
theorem fn_of {CX : CXT} {P : Program} {w : World} {K : PySem.W.Frag} {mg : Str → Option Value} {base : Heap} {k : Nat} {f : Addr} {name qual : Str} {params : Arguments} {body : List Stmt} {scope : Scope} {dV kV doc pm cdv ct oc : Value} {an od : Option Addr}
    {osl : Array (Option Value)} {N ps : List Str} {sp : Sp} (lk : K.lookup f = some ⟨oc, od, .func (PySem.W.fnOf name qual params body scope dV kV doc pm an cdv ct), osl⟩) (hcd : PySem.W.codeIn K cdv qual = true) (S : FnScope N ps scope)
    (len : ∀ vs H Q E, sp vs H Q E → vs.length = ps.length)
    (hbody : ∀ (A : Around) (outer : List Env) (s : Shared) (H : Hp) (vs : List V) (Q : VK) (E : XK), Room k (A.deeper (envOfC qual scope s.heap.objs.size f cdv)) → sp vs H Q E →
      ∃ t, PSs (cxOf CX P w K mg base N qual scope f cdv A outer s H E) body t ∧ t { nx := fun _ H' => Q .non H', rt := Q } (start N vs) H) :
    FnOk P w K mg base CX (k + 1) f (PySem.W.fnOf name qual params body scope dV kV doc pm an cdv ct) ps sp := by
  refine ⟨len, fun A outer s H args us vs Q E hr e0 hb r hsp => ?_⟩
  have hl := len _ _ _ _ hsp
  have KX : K.In s.heap := e0.mod.kin.keeps fun b o e => (e0.bs b o e).1
  have lim : s.heap.NoLimit := e0.mod.nolimit.keeps fun b o e => (e0.bs b o e).1
  have hkind : ∀ y ∈ ps.zip us, scope.names.lookup y.1 = some .local ∨ (scope.names.lookup y.1 = some .cell ∧ ((cellsFrom (s.heap.objs.size + 1) scope.names []).lookup y.1).isSome = true) := fun ⟨n, v⟩ hy => by
    rcases S.par n (List.of_mem_zip hy).1 with q | q
    · exact .inl q
    · exact .inr ⟨q, PySem.W.cellsFrom_some _ _ _ (.inl q)⟩
  refine codeAny_call_function hr.depth (KX _ _ lk) rfl S.co S.gen rfl (PySem.W.codeRec_of KX hcd) (hb _ _ _ _ ?_)
  refine wpAny_newFunctionEnv_cells S.kind hkind fun env he s1 x => ?_
  subst he
  refine ⟨lim.keeps x.toInCall.keep, codeAny_func ?_⟩
  obtain ⟨t, ht, hq⟩ := hbody A outer s H vs Q E (hr.deeper _) hsp
  have I : Inv (cxOf CX P w K mg base N qual scope f cdv A outer s H E) [] (start N vs) H s1 := inv_start S hr.hd e0 hl r x
  refine wpAny_mono (ht [] s1 (start N vs) H _ I hq) (fun fl s' hs => ?_) fun e s' hs => hs
  have fin : ∀ {σ' : St} {H' : Hp} {v : V} {u : Value}, Inv (cxOf CX P w K mg base N qual scope f cdv A outer s H E) [] σ' H' s' → RelV v u → Q v H' → CE outer P w H s Q u s' :=
    fun {σ' H' v u} J rv q => ⟨v, H', J.os, J.bare, J.base, J.hok, rv, q⟩
  cases fl with
  | ret u =>
    obtain ⟨v, σ', H', J, rv, q⟩ := hs
    exact fin J rv q
  | next =>
    obtain ⟨σ', H', J, q⟩ := hs
    exact fin (v := V.non) (u := Value.none) J rfl q
  | brk =>
    obtain ⟨_, _, _, q⟩ := hs
    exact False.elim q
  | cont =>
    obtain ⟨_, _, _, q⟩ := hs
    exact False.elim q
end L2
namespace L2
open PySem PySem.Spec PyProof.Rows
section
variable {X : Cx} {x : Str} {p pos : Pos} {e : Expr} {es : List Expr} {t : TA} {id T : String} {r : List V → Hp → VK → Prop}
def tCB (r : List V → Hp → VK → Prop) (t : TA) : TE := fun σ H Q => t σ H fun vs H1 => r vs H1 Q
theorem pe_callB (hc : CallR X (.builtin id) r) (hg : Gl X x) (hm : X.mg x = none) (hv : bootBuiltins x = some (.builtin id)) (ha : PA X (e :: es) t) (hn : x ≠ "__name__" := by decide) (hdb : (x == ("__debug__" : Str)) = false := by decide)
    (he : starEach (e :: es) X.env = (false, eval e X.env) :: starEach es X.env := by rfl) (hpl : (backTo pos (starEach es X.env)).any (·.1) = false := by rfl) : PE X (.Call (.Name x p) (e :: es) [] pos) (tCB r t) := by
  intro pins s σ H Q I h
  refine wpAny_Call_Name_kw (ld_blt I hg hm hv ?_ hn hdb)
  exact PyProof.Rows.callWith_builtin1 (thn (ha pos pins s σ H _ I h) fun us s1 ⟨vs, H1, I1, r1, q1⟩ => hc pins s1 σ H1 vs us Q I1 r1 q1) he hpl
theorem pe_callTy (hc : CallR X (.type T) r) (hg : Gl X x) (hm : X.mg x = none) (hv : bootBuiltins x = some (.type T)) (ha : PA X (e :: es) t) (hn : x ≠ "__name__" := by decide) (hdb : (x == ("__debug__" : Str)) = false := by decide)
    (he : starEach (e :: es) X.env = (false, eval e X.env) :: starEach es X.env := by rfl) (hpl : (backTo pos (starEach es X.env)).any (·.1) = false := by rfl) : PE X (.Call (.Name x p) (e :: es) [] pos) (tCB r t) := by
  intro pins s σ H Q I h
  refine wpAny_Call_Name_kw (ld_blt I hg hm hv ?_ hn hdb)
  exact PyProof.Rows.callWith_type1 (thn (ha pos pins s σ H _ I h) fun us s1 ⟨vs, H1, I1, r1, q1⟩ => hc pins s1 σ H1 vs us Q I1 r1 q1) he hpl
end
end L2
namespace HT
open PySem PyProof.Rows
def lexLt : List Int → List Int → Bool
  | [], [] => false
  | [], _ :: _ => true
  | _ :: _, [] => false
  | x :: xs, y :: ys => if x = y then lexLt xs ys else decide (x < y)
theorem lexLt_cons (x y : Int) (xs ys : List Int) : lexLt (x :: xs) (y :: ys) = if x = y then lexLt xs ys else decide (x < y) := rfl
theorem lexLt_nil_nil : lexLt [] [] = false := rfl
theorem lexLt_nil_cons (y : Int) (ys : List Int) : lexLt [] (y :: ys) = true := rfl
theorem lexLt_cons_nil (x : Int) (xs : List Int) : lexLt (x :: xs) [] = false := rfl
theorem eqAt_int (A : Around) (s : Shared) (a : Int) (t : Tok) (c : Int) (u : Tok) : ∃ e, SeqAt.EqAt A s (.int a t) (.int c u) e ∧ (e = true ↔ a = c) :=
  ⟨(a == c), SeqAt.EqAt.int_int a t c u, by simp⟩
theorem rcLt_int (A : Around) (s : Shared) (a : Int) (t : Tok) (c : Int) (u : Tok) (prog : Program) (w : World) (E : Value → Shared → Prop) (Q : Value → Shared → Prop) (h : Q (.bool (decide (a < c))) s) :
    wpAny (model prog w) A (richCompare .Lt (.int a t) (.int c u)) Q E s :=
  (PyProof.Rows.lt_int h : wpAny (model prog w) A (compareOp .Lt (.int a t) (.int c u)) Q E s)
section
open PySem.SeqAt
open PySem.AutoSeq1 (wpAny_loadPart')
open PySem.MeetsSeq PySem.MeetsSeq2 PySem.MeetsSeq3
theorem tuple_lt_ints (l b : Addr) (items items2 : Array Value) (n n2 : Nat) (dd dd2 : Option Addr) (sl sl2 : Array (Option Value)) (ns ms : List Int) (hi : IntsAre items.toList ns) (hj : IntsAre items2.toList ms) :
    Meets (Builtin.«tuple.__lt__» ⟨[.ref l, .ref b], []⟩)
      (fun _ R s => s.heap.get? l = some { cls := .type "tuple", dict := dd, data := .seq items n, slots := sl } ∧ s.heap.get? b = some { cls := .type "tuple", dict := dd2, data := .seq items2 n2, slots := sl2 } ∧
        R (.ok (.ret (.bool (lexLt ns ms)))) s) :=
  .of_wp fun prog w A R s h => by
    obtain ⟨hp, g, d, tk, os⟩ := s; obtain ⟨hl, hb, h⟩ := h
    have f2 := AutoSeq1.sub_tuple_tuple
    have z1 : items.size = ns.length := by rw [← hi.length]; simp
    have z2 : items2.size = ms.length := by rw [← hj.length]; simp
    wp_walk using wpAny_loadPart' hl, wpAny_loadPart' hb, wpAny_forIn_list _ (fun rest b s' => b.1 = none ∧ s' = ⟨hp, g, d, tk, os⟩ ∧ ∃ (vs ws : List Value) (ns' ms' : List Int), rest = vs.zip ws ∧
      IntsAre vs ns' ∧ IntsAre ws ms' ∧ ns'.length + items2.size = ms'.length + items.size ∧ R (.ok (.ret (.bool (lexLt ns' ms')))) ⟨hp, g, d, tk, os⟩) _
    case turn =>
      rintro ⟨y, x⟩ rest b s' ⟨hb', rfl, vs, ws, ns', ms', hz, hvi, hwi, hlen, hR⟩
      cases hvi with
      | nil => rw [List.zip_nil_left] at hz; cases hz
      | cons a t hvi' =>
        cases hwi with
        | nil => rw [List.zip_nil_right] at hz; cases hz
        | cons c u hwi' =>
          rw [List.zip_cons_cons] at hz
          injection hz with hyx hrest
          injection hyx with hy hx
          subst hy hx
          rw [lexLt_cons] at hR
          simp only [List.length_cons] at hlen
          obtain ⟨e, he, hiff⟩ := eqAt_int A.in1 ⟨hp, g, d, tk, os⟩ a t c u
          refine wpAny_bind (he prog w _ _ ?_)
          cases e with
          | true =>
            rw [if_pos (hiff.mp rfl)] at hR
            wp_walk
            exact ⟨rfl, rfl, _, _, _, _, hrest, hvi', hwi', by omega, hR⟩
          | false =>
            rw [if_neg (fun q => absurd (hiff.mpr q) Bool.false_ne_true)] at hR
            have hri := rcLt_int A.in1 ⟨hp, g, d, tk, os⟩ a t c u prog w
            wp_walk using hri
            exact ⟨_, rfl, by simpa using hR⟩
    case fin =>
      rintro ⟨b1, b2⟩ s' ⟨hb', rfl, vs, ws, ns', ms', hz, hvi, hwi, hlen, hR⟩
      simp only at hb'
      subst hb'
      have hv : lexLt ns' ms' = decide (items.size < items2.size) := by
        cases hvi with
        | nil =>
          cases hwi with
          | nil =>
            simp only [List.length_nil] at hlen
            rw [lexLt_nil_nil]
            exact (decide_eq_false (by omega)).symm
          | cons c u hw =>
            simp only [List.length_nil, List.length_cons] at hlen
            rw [lexLt_nil_cons]
            exact (decide_eq_true (by omega)).symm
        | cons a t hv =>
          cases hwi with
          | nil =>
            simp only [List.length_nil, List.length_cons] at hlen
            rw [lexLt_cons_nil]
            exact (decide_eq_false (by omega)).symm
          | cons c u hw =>
            rw [List.zip_cons_cons] at hz
            cases hz
      rw [hv] at hR
      wp_walk
      exact ⟨_, rfl, by simpa [Builtin.Tuple.tupleCompareSizes] using hR⟩
    case h =>
      exact ⟨rfl, rfl, items.toList, items2.toList, ns, ms, rfl, hi, hj, by omega, h⟩
end
section
variable {prog : Program} {w : World} {A : Around} {E : Value → Shared → Prop} {s : Shared}
theorem lt_tupInts {l b : Addr} {items items2 : Array Value} {ns ms : List Int} {Q : Value → Shared → Prop} (hl : IsTup s.heap l items) (hb : IsTup s.heap b items2) (hi : IntsAre items.toList ns) (hj : IntsAre items2.toList ms)
    (hu : A.units < cLine) (h : Q (.bool (lexLt ns ms)) s) : wpAny (model prog w) A (compareOp .Lt (.ref l) (.ref b)) Q E s := by
  obtain ⟨⟨cls, dd, data, sl⟩, ho, hc, n, hd⟩ := id hl
  obtain ⟨⟨cls2, dd2, data2, sl2⟩, ho2, hc2, n2, hd2⟩ := id hb
  simp only at hc hd hc2 hd2
  subst hc hd hc2 hd2
  exact richCompare_meets_room (op := .Lt) ⟨_, ho, rfl⟩ ⟨_, ho2, rfl⟩ PySem.F.slot_tuple_lt PySem.F.entry_tuple_lt (PySem.F.args_tuple_lt_2 _ _) (tuple_lt_ints l b items items2 n n2 dd dd2 sl sl2 ns ms hi hj)
    ⟨ho, ho2, show Value.bool (lexLt ns ms) ≠ Value.notImplemented ∧ Q (.bool (lexLt ns ms)) s from ⟨(fun x => nomatch x), h⟩⟩ hu
theorem cat_tup {t b : Addr} {vs ws : List Value} {Q : Value → Shared → Prop} (ht : IsTup s.heap t vs.toArray) (hb : IsTup s.heap b ws.toArray) (hv : vs ≠ [])
    (h1 : ws = [] → Q (.ref t) s) (h2 : ws ≠ [] → Q (.ref s.heap.objs.size) { s with heap := s.heap.push { cls := .type "tuple", data := .seq (vs ++ ws).toArray } })
    (hsz : vs.length + ws.length ≤ sizeLine) : wpAny (model prog w) A (binaryOp .Add (.ref t) (.ref b)) Q E s := by
  obtain ⟨⟨cls, dd, data, sl⟩, ho, hc, n, hd⟩ := id ht
  obtain ⟨⟨cls2, dd2, data2, sl2⟩, ho2, hc2, n2, hd2⟩ := id hb
  simp only at hc hd hc2 hd2
  subst hc hd hc2 hd2
  have e : vs.toArray ++ ws.toArray = (vs ++ ws).toArray := by simp
  by_cases hw : ws = []
  · exact concat_meets ⟨_, ho, rfl⟩ ⟨_, ho2, rfl⟩ noFill_tuple_add seq_tuple_add PySem.F.slot_tuple_add PySem.F.entry_tuple_add (PySem.F.args_tuple_add_2 _ _)
      (tuple_addW1 t b vs.toArray ws.toArray n n2 dd dd2 sl sl2 (by simpa using hv) (by simp [hw])) ⟨ho, ho2, h1 hw⟩
  · refine concat_meets ⟨_, ho, rfl⟩ ⟨_, ho2, rfl⟩ noFill_tuple_add seq_tuple_add PySem.F.slot_tuple_add PySem.F.entry_tuple_add (PySem.F.args_tuple_add_2 _ _)
      (tuple_addW2 t b vs.toArray ws.toArray n n2 dd dd2 sl sl2 (by simpa using hv) (by simpa using hw) (by rw [List.size_toArray, List.size_toArray]; exact hsz)) ⟨ho, ho2, ?_⟩
    rw [e]
    exact h2 hw
def sIx (n d : Nat) : Option Int → Nat
  | none => d
  | some v => if v < 0 then (v + (n : Int)).toNat else min v.toNat n
theorem sIx_none (n d : Nat) : sIx n d none = d := rfl
theorem sIx_nat (n d k : Nat) : sIx n d (some (k : Int)) = min k n := by
  show (if (k : Int) < 0 then ((k : Int) + (n : Int)).toNat else min (k : Int).toNat n) = min k n
  rw [if_neg (by omega), Int.toNat_natCast]
theorem sIx_le (n d : Nat) (hd : d ≤ n) (o : Option Int) : sIx n d o ≤ n := by
  cases o with
  | none => exact hd
  | some v =>
    show (if v < 0 then (v + (n : Int)).toNat else min v.toNat n) ≤ n
    by_cases hv : v < 0
    · rw [if_pos hv]; omega
    · rw [if_neg hv]; exact Nat.min_le_right _ _
theorem clip_eq (v : Int) (n d : Nat) : (if v < 0 then max (v + (n : Int)) 0 else min v (n : Int)) = ((sIx n d (some v) : Nat) : Int) := by
  show (if v < 0 then max (v + (n : Int)) 0 else min v (n : Int)) = (((if v < 0 then (v + (n : Int)).toNat else min v.toNat n) : Nat) : Int)
  by_cases hv : v < 0
  · simp only [if_pos hv]; omega
  · simp only [if_neg hv]; omega
theorem adjust_gen (lo hi : Option Int) (n : Nat) : Builtin.Slice.sliceAdjust lo hi 1 (n : Int) = (((sIx n 0 lo : Nat) : Int), ((sIx n n hi : Nat) : Int)) := by
  have h1 : ¬ ((1 : Int) < 0) := by omega
  unfold Builtin.Slice.sliceAdjust
  simp only [h1, if_false]
  refine Prod.ext ?_ ?_
  · cases lo with
    | none => rfl
    | some v => exact clip_eq v n 0
  · cases hi with
    | none => rfl
    | some v => exact clip_eq v n n
theorem places_gen (i j : Nat) : Builtin.Slice.slicePlaces (i : Int) (j : Int) 1 = j - i := by
  unfold Builtin.Slice.slicePlaces
  have h1 : (1 : Int) > 0 := by omega
  simp only [h1, if_true, Int.ediv_one]
  split <;> omega
theorem slicePart_ {v : Value} {o : Option Int} {Q : Option Int → Shared → Prop} (p : IsPart v o) (h : Q o s) : wpAny (model prog w) A (Builtin.Slice.slicePartIndex v) Q E s := by
  cases p with
  | none => exact slicePart_none h
  | int i t => exact slicePart_int h
theorem sliceApplied_gen {sl : Addr} {vl vu : Value} {lo hi : Option Int} {n : Nat} {Q : Int × Int × Nat → Shared → Prop} (hs : s.heap.IsSliceOf sl vl vu .none) (pl : IsPart vl lo) (pu : IsPart vu hi)
    (h : Q (((sIx n 0 lo : Nat) : Int), 1, sIx n n hi - sIx n 0 lo) s) : wpAny (model prog w) A (Builtin.Slice.sliceApplied (.ref sl) (pure (n : Int))) Q E s := by
  obtain ⟨os, hos, hcs, hds⟩ := id hs
  unfold Builtin.Slice.sliceApplied Builtin.Slice.sliceFields
  refine wpAny_bind (wpAny_bind (wpAny_field hos hds (x := vl) rfl (wpAny_bind (wpAny_field hos hds (x := vu) rfl (wpAny_bind (wpAny_field hos hds (x := .none) rfl (wpAny_pure ?_)))))))
  refine wpAny_bind (slicePart_none ?_)
  show wpAny _ _ (if ((1 : Int) == 0) = true then _ else _) _ _ s
  rw [if_neg (by decide)]
  refine wpAny_bind (slicePart_ pl (wpAny_bind (slicePart_ pu (wpAny_bind (wpAny_pure ?_)))))
  show wpAny _ _ (match Builtin.Slice.sliceAdjust lo hi 1 (n : Int) with | (lo, hi) => pure (lo, (1 : Int), Builtin.Slice.slicePlaces lo hi 1)) _ _ s
  rw [adjust_gen lo hi n]
  show wpAny _ _ (pure (((sIx n 0 lo : Nat) : Int), (1 : Int), Builtin.Slice.slicePlaces ((sIx n 0 lo : Nat) : Int) ((sIx n n hi : Nat) : Int) 1)) _ _ s
  rw [places_gen]
  exact wpAny_pure h
theorem pick_gen (xs : Array Value) (i k : Nat) : ((List.range k).filterMap fun (m : Nat) => xs[((i : Int) + (m : Int) * 1).toNat]?).toArray = ((xs.toList.drop i).take k).toArray := by
  have e : (fun (m : Nat) => xs[((i : Int) + (m : Int) * 1).toNat]?) = fun m => xs[i + m]? := by
    funext m
    have : ((i : Int) + (m : Int) * 1).toNat = i + m := by omega
    rw [this]
  rw [e]
  have := pick_run xs i k
  rw [List.filterMap_map] at this
  have e2 : ((fun x => xs[x]?) ∘ fun x => i + x) = fun m => xs[i + m]? := rfl
  rw [e2] at this
  rw [this]
theorem getItem_tuple_cut {t sl : Addr} {items : Array Value} {vl vu : Value} {lo hi : Option Int} {Q : Value → Shared → Prop} (ht : IsTup s.heap t items) (hs : s.heap.IsSliceOf sl vl vu .none) (pl : IsPart vl lo) (pu : IsPart vu hi)
    (hw : ¬ (sIx items.size 0 lo = 0 ∧ sIx items.size items.size hi = items.size))
    (h : Q (.ref s.heap.objs.size) { s with heap := s.heap.push { cls := .type "tuple", data := .seq ((items.toList.drop (sIx items.size 0 lo)).take (sIx items.size items.size hi - sIx items.size 0 lo)).toArray } })
    (hsz : items.size ≤ sizeLine) : wpAny (model prog w) A (getItem (.ref t) (.ref sl)) Q E s := by
  have htake : sizeOk (.seq ((items.toList.drop (sIx items.size 0 lo)).take (sIx items.size items.size hi - sIx items.size 0 lo)).toArray) := by
    show ((items.toList.drop (sIx items.size 0 lo)).take (sIx items.size items.size hi - sIx items.size 0 lo)).toArray.size ≤ sizeLine
    rw [List.size_toArray, List.length_take, List.length_drop, Array.length_toList]
    omega
  have hj : sIx items.size items.size hi ≤ items.size := sIx_le _ _ (Nat.le_refl _) hi
  obtain ⟨os, hos, hcs, hds⟩ := id hs
  have hTs : s.TypeIs (.ref sl) "slice" := ⟨os, hos, hcs⟩
  unfold getItem
  try with_reducible refine wpAny_holding ?_
  first | refine wpAny_bind (wpAny_pure ?_) | skip
  refine wpAny_bind (wpAny_sequenceKey ht.typeIs (by decide) ?_)
  refine wpAny_bind (wpAny_callSpecial?_slot (name := Str.ofString "__getitem__") ht.typeIs PyProof.Rows.slot_tuple_getitem
    (wpAny_call_entry PyProof.Rows.slot_tuple_getitem ht.typeIs entry_tuple_getitem ?_ (args_tuple_getitem _ _)))
  show wpAny _ _ (Builtin.Tuple.tupleItemsOf (.ref t) >>= _) _ _ s
  refine wpAny_bind (tupleItemsOf_ ht ?_)
  refine wpAny_bind (wpAny_typeOf hTs ?_)
  rw [if_pos (by decide)]
  refine wpAny_bind (sliceApplied_gen hs pl pu ?_)
  have hno : ¬ ((((sIx items.size 0 lo : Nat) : Int) == 0 && (1 : Int) == 1 && (sIx items.size items.size hi - sIx items.size 0 lo) == items.size) = true) := by
    intro q
    rw [Bool.and_eq_true, Bool.and_eq_true] at q
    have q1 : ((sIx items.size 0 lo : Nat) : Int) = 0 := eq_of_beq q.1.1
    have q2 : sIx items.size items.size hi - sIx items.size 0 lo = items.size := eq_of_beq q.2
    exact hw ⟨by omega, by omega⟩
  show wpAny _ _ (if (((sIx items.size 0 lo : Nat) : Int) == 0 && (1 : Int) == 1 && (sIx items.size items.size hi - sIx items.size 0 lo) == items.size) = true then _ else _) _ _ s
  rw [if_neg hno, pick_gen]
  first
    | exact wpAny_bind (m := Builtin.Tuple.tupleExact _) (wpAny_newObj_type (wpAny_pure ⟨_, rfl, wpAny_pure h⟩) htake)
    | exact wpAny_bind (m := Builtin.Tuple.tupleExact _) (wpAny_newObj_type (wpAny_bind (wpAny_pure (wpAny_pure ⟨_, rfl, wpAny_pure h⟩))) htake)
    | exact wpAny_bind (wpAny_bind (m := Builtin.Tuple.tupleExact _) (wpAny_newObj_type (wpAny_pure (wpAny_pure ⟨_, rfl, wpAny_pure h⟩)) htake))
    | exact wpAny_bind (wpAny_bind (m := Builtin.Tuple.tupleExact _) (wpAny_newObj_type (wpAny_pure ⟨_, rfl, wpAny_pure h⟩) htake))
end
end HT
namespace L2
open PySem PySem.Spec PyProof.Rows
abbrev TO := St → Hp → (Option Int → Hp → Prop) → Prop
def PO (X : Cx) (e : Option Expr) (t : TO) : Prop :=
  ∀ (pins : List (Addr × Obj)) (s : Shared) (σ : St) (H : Hp) (Q : Option Int → Hp → Prop), Inv X pins σ H s → t σ H Q →
    wpAny (model X.prog X.w) X.A (evalPart e X.env) (fun u s' => ∃ o H', Inv X pins σ H' s' ∧ IsPart u o ∧ Q o H') X.xe s
def tNoPart : TO := fun _ H Q => Q none H
def tPart (t : TE) : TO := fun σ H Q => t σ H fun x H1 => ∃ i, x = .int i ∧ Q (some i) H1
theorem intsAre_of {ns : List Int} : ∀ {us : List Value}, Vals (ns.map V.int) us → IntsAre us ns := by
  induction ns with
  | nil => intro us r; rw [List.map_nil] at r; cases r; exact .nil
  | cons n ns ih =>
    intro us r
    rw [List.map_cons] at r
    cases r with
    | cons r1 r2 =>
      obtain ⟨t, e⟩ := r1
      subst e
      exact .cons n t (ih r2)
section
variable {X : Cx} {e : Expr} {te : TE} {lo hi : Option Expr} {tl th : TO} {pos p2 : Pos}
theorem po_none : PO X none tNoPart := by
  intro pins s σ H Q I h
  rw [evalPart_none]
  exact wpAny_pure ⟨none, H, I, .none, h⟩
theorem po_some (h : PE X e te) : PO X (some e) (tPart te) := by
  intro pins s σ H Q I hw
  rw [evalPart_some]
  refine thn (h pins s σ H _ I hw) fun u s1 ⟨x, H1, I1, r1, q1⟩ => ?_
  obtain ⟨i, rfl, q⟩ := q1
  obtain ⟨t, rfl⟩ := r1
  exact ⟨some i, H1, I1, .int i t, q⟩
def SlR (X : Cx) (r : V → Option Int → Option Int → Hp → VK → Prop) : Prop :=
  ∀ (pins : List (Addr × Obj)) (s : Shared) (σ : St) (H : Hp) (x : V) (v vl vu : Value) (lo hi : Option Int) (sl : Addr) (Q : VK), Inv X pins σ H s → RelV x v → s.heap.IsSliceOf sl vl vu .none → IsPart vl lo → IsPart vu hi → r x lo hi H Q →
    ∃ T id, typeLookup (.type T) "__getitem__" = pure (some (.builtin id)) ∧ s.TypeIs v T ∧ wpAny (model X.prog X.w) X.A (getItem v (.ref sl)) (EP X pins σ Q) X.xe s
theorem SlR.or {r r' : V → Option Int → Option Int → Hp → VK → Prop} (h : SlR X r) (h' : SlR X r') : SlR X (fun x lo hi H Q => r x lo hi H Q ∨ r' x lo hi H Q) := by
  intro pins s σ H x v vl vu lo hi sl Q I rx hs pl pu q
  rcases q with q | q
  · exact h pins s σ H x v vl vu lo hi sl Q I rx hs pl pu q
  · exact h' pins s σ H x v vl vu lo hi sl Q I rx hs pl pu q
def tSl (r : V → Option Int → Option Int → Hp → VK → Prop) (te : TE) (tl th : TO) : TE := fun σ H Q => te σ H fun x H1 => tl σ H1 fun l H2 => th σ H2 fun u H3 => r x l u H3 Q
theorem pe_slice {r : V → Option Int → Option Int → Hp → VK → Prop} (hr : SlR X r) (he : PE X e te) (hl : PO X lo tl) (hu : PO X hi th) : PE X (.Subscript e (.Slice lo hi none p2) pos) (tSl r te tl th) := by
  intro pins s σ H Q I h
  refine Subscript_ (thn (he pins s σ H _ I h) fun v s1 ⟨x, H1, I1, r1, q1⟩ => ?_)
  refine wpAny_Slice (thn (hl pins s1 σ H1 _ I1 q1) fun vl s2 ⟨l, H2, I2, pl, q2⟩ => thn (hu pins s2 σ H2 _ I2 q2) fun vu s3 ⟨u, H3, I3, pu, q3⟩ => ?_)
  rw [evalPart_none]
  refine wpAny_pure ?_
  have I4 : Inv X pins σ H3 { s3 with heap := s3.heap.push { cls := .type "slice", data := .fields #[vl, vu, .none] } } := I3.kept (t' := s3.toks) fun b ob q => Heap.get?_push_of_some _ q
  obtain ⟨T, id, hT, ht, hg⟩ := hr pins { s3 with heap := s3.heap.push { cls := .type "slice", data := .fields #[vl, vu, .none] } } σ H3 x v vl vu l u s3.heap.objs.size Q I4 r1 (Heap.IsSliceOf.new ..) pl pu q3
  show wpAny (model X.prog X.w) X.A (subscriptTail e (.Slice lo hi none p2) v (.ref s3.heap.objs.size)) (EP X pins σ Q) X.xe { s3 with heap := s3.heap.push { cls := .type "slice", data := .fields #[vl, vu, .none] } }
  exact tail_any (ops := [.ref s3.heap.objs.size, v]) ht hT hg (by with_unfolding_all rfl)
def cutV (xs : List V) (lo hi : Option Int) : List V := (xs.drop (HT.sIx xs.length 0 lo)).take (HT.sIx xs.length xs.length hi - HT.sIx xs.length 0 lo)
theorem cutV_length (xs : List V) (lo hi : Option Int) : (cutV xs lo hi).length ≤ xs.length := by
  unfold cutV
  rw [List.length_take, List.length_drop]
  omega
def rSlT (K : PySem.W.Frag) : V → Option Int → Option Int → Hp → VK → Prop := fun x lo hi H Q => ∃ a xs, x = .ref a ∧ SqT K H a xs ∧
  ¬ (HT.sIx xs.length 0 lo = 0 ∧ HT.sIx xs.length xs.length hi = xs.length) ∧ ∀ p, H p = none → Q (.ref p) (upd H p (.tup (cutV xs lo hi)))
theorem sl_tup : SlR X (rSlT X.K) := by
  intro pins s σ H x v vl vu lo hi sl Q I rx hs pl pu h
  obtain ⟨a, xs, rfl, hx, hw, q⟩ := h
  cases rx
  obtain ⟨its, r, ht, hz⟩ := I.tuple hx
  have hlen : its.toArray.size = xs.length := by rw [List.size_toArray]; exact r.length.symm
  refine ⟨"tuple", _, PyProof.Rows.slot_tuple_getitem.lookup, ht.typeIs, ?_⟩
  refine HT.getItem_tuple_cut ht hs pl pu (by rw [hlen]; exact hw) ?_ (by rw [hlen]; exact hz)
  rw [hlen]
  refine ⟨.ref s.heap.objs.size, _, I.laid (t' := s.toks) (o := .tup (cutV xs lo hi)) (fun b ob q => Heap.get?_push_of_some _ q) (Nat.le_refl _) ?_, rfl, q _ (I.hok.fresh (Nat.le_refl _))⟩
  exact ⟨Nat.le_trans (cutV_length xs lo hi) hz, _, (r.drop (HT.sIx xs.length 0 lo)).take (HT.sIx xs.length xs.length hi - HT.sIx xs.length 0 lo), IsTup.new _ _⟩
def rLtT (K : PySem.W.Frag) : R2 := fun x y H Q => ∃ a b ns ms, x = .ref a ∧ y = .ref b ∧ SqT K H a (ns.map V.int) ∧ SqT K H b (ms.map V.int) ∧ Q (.bl (HT.lexLt ns ms)) H
theorem op_ltT (hu : X.A.units < cLine) : OpR X (compareOp .Lt) (rLtT X.K) := by
  intro pins s σ H x y v u Q I rx ry h
  obtain ⟨a, b, ns, ms, rfl, rfl, ha, hb, q⟩ := h
  cases rx
  cases ry
  obtain ⟨its, r1, p1, _⟩ := I.tuple ha
  obtain ⟨its2, r2, p2, _⟩ := I.tuple hb
  have i1 : IntsAre its.toArray.toList ns := intsAre_of r1
  have i2 : IntsAre its2.toArray.toList ms := intsAre_of r2
  exact HT.lt_tupInts p1 p2 i1 i2 hu ⟨.bl (HT.lexLt ns ms), H, I, rfl, q⟩
def rCatT (K : PySem.W.Frag) : R2 := fun x y H Q => ∃ a b xs ys, x = .ref a ∧ y = .ref b ∧ SqT K H a xs ∧ SqT K H b ys ∧ xs ≠ [] ∧ xs.length + ys.length ≤ sizeLine ∧
  (ys = [] → Q (.ref a) H) ∧ (ys ≠ [] → ∀ p, H p = none → Q (.ref p) (upd H p (.tup (xs ++ ys))))
theorem Vals.nil_iff {xs : List V} {us : List Value} (r : Vals xs us) : us = [] ↔ xs = [] := by
  cases r with
  | nil => simp
  | cons _ _ => simp
theorem op_catT : OpR X (binaryOp .Add) (rCatT X.K) := by
  intro pins s σ H x y v u Q I rx ry h
  obtain ⟨a, b, xs, ys, rfl, rfl, ha, hb, hx, hz, q1, q2⟩ := h
  cases rx
  cases ry
  obtain ⟨its, r1, p1, _⟩ := I.tuple ha
  obtain ⟨its2, r2, p2, _⟩ := I.tuple hb
  refine HT.cat_tup p1 p2 (fun z => hx (r1.nil_iff.mp z)) (fun z => ⟨.ref a, H, I, rfl, q1 (r2.nil_iff.mp z)⟩) (fun z => ?_) (by rw [← r1.length, ← r2.length]; exact hz)
  refine ⟨.ref s.heap.objs.size, _, I.laid (t' := s.toks) (o := .tup (xs ++ ys)) (fun b ob q => Heap.get?_push_of_some _ q) (Nat.le_refl _) ?_, rfl, q2 (fun w => z (r2.nil_iff.mpr w)) _ (I.hok.fresh (Nat.le_refl _))⟩
  exact ⟨by rw [List.length_append]; exact hz, _, r1.append r2, IsTup.new _ _⟩
end
end L2
namespace L2
open PySem PySem.Spec PyProof.Rows
def ixN (n : Nat) (i : Int) : Option Nat := if 0 ≤ i then (if i < n then some i.toNat else none) else if -(n : Int) ≤ i then some (i + n).toNat else none
def atI {α : Type} (xs : List α) (i : Int) : Option α := (ixN xs.length i).bind fun j => xs[j]?
theorem ixN_seq {n : Nat} {i : Int} {j : Nat} (h : ixN n i = some j) : seqIndex? i n = some j ∧ j < n ∧ -(n : Int) ≤ i ∧ i < n := by
  unfold ixN at h
  by_cases h0 : 0 ≤ i
  · rw [if_pos h0] at h
    by_cases h1 : i < n
    · rw [if_pos h1] at h
      have e : i.toNat = j := Option.some.inj h
      exact ⟨by rw [seqIndex_of h0 h1, e], by omega, by omega, h1⟩
    · rw [if_neg h1] at h; cases h
  · rw [if_neg h0] at h
    by_cases h1 : -(n : Int) ≤ i
    · rw [if_pos h1] at h
      have e : (i + n).toNat = j := Option.some.inj h
      exact ⟨by rw [seqIndex_neg (by omega) h1, e], by omega, h1, by omega⟩
    · rw [if_neg h1] at h; cases h
theorem atI_get {α : Type} {xs : List α} {i : Int} {v : α} (h : atI xs i = some v) : ∃ j, seqIndex? i xs.length = some j ∧ xs[j]? = some v ∧ j < xs.length ∧ -(xs.length : Int) ≤ i ∧ i < xs.length := by
  unfold atI at h
  cases e : ixN xs.length i with
  | none => rw [e] at h; cases h
  | some j =>
    rw [e] at h
    obtain ⟨h1, h2, h3, h4⟩ := ixN_seq e
    exact ⟨j, h1, h, h2, h3, h4⟩
def PlainIx (b : Expr) : Prop := ∀ o i, subscripted b false o i = operate [o, i] (getItem o i)
def IxR (X : Cx) (r : R2) : Prop :=
  ∀ (value slice : Expr) (pins : List (Addr × Obj)) (s : Shared) (σ : St) (H : Hp) (x y : V) (v u : Value) (Q : VK), Inv X pins σ H s → RelV x v → RelV y u → r x y H Q →
    subscripted slice false v u = operate [v, u] (getItem v u) → wpAny (model X.prog X.w) X.A (subscriptTail value slice v u) (EP X pins σ Q) X.xe s
def MtR (X : Cx) (id : String) (r : V → List V → Hp → VK → Prop) : Prop :=
  ∀ (pins : List (Addr × Obj)) (s : Shared) (σ : St) (H : Hp) (x : V) (xs : List V) (v : Value) (us : List Value) (Q : VK), Inv X pins σ H s → RelV x v → Vals xs us → r x xs H Q →
    wpAny (model X.prog X.w) X.A (call (.builtin id) (v :: us)) (EP X pins σ Q) X.xe s
section
variable {X : Cx} {a b : Expr} {ta tb : TE} {pos : Pos}
theorem IxR.or {r r' : R2} (h : IxR X r) (h' : IxR X r') : IxR X (fun x y H Q => r x y H Q ∨ r' x y H Q) := by
  intro value slice pins s σ H x y v u Q I rx ry q hs
  rcases q with q | q
  · exact h value slice pins s σ H x y v u Q I rx ry q hs
  · exact h' value slice pins s σ H x y v u Q I rx ry q hs
theorem MtR.or {id : String} {r r' : V → List V → Hp → VK → Prop} (h : MtR X id r) (h' : MtR X id r') : MtR X id (fun x xs H Q => r x xs H Q ∨ r' x xs H Q) := by
  intro pins s σ H x xs v us Q I rx rs q
  rcases q with q | q
  · exact h pins s σ H x xs v us Q I rx rs q
  · exact h' pins s σ H x xs v us Q I rx rs q
theorem pe_ix {r : R2} (hr : IxR X r) (ha : PE X a ta) (hb : PE X b tb) (hs : PlainIx b) : PE X (.Subscript a b pos) (tOp r ta tb) := by
  intro pins s σ H Q I h
  exact Subscript_ (binT ha hb I h fun v u s2 x y H2 I2 rx ry q => hr a b pins s2 σ H2 x y v u Q I2 rx ry q (hs _ _))
def rIxL (K : PySem.W.Frag) : R2 := fun x y H Q => ∃ p xs i v, x = .ref p ∧ y = .int i ∧ SqL K H p xs ∧ atI xs i = some v ∧ Q v H
def rIxT (K : PySem.W.Frag) : R2 := fun x y H Q => ∃ p xs i v, x = .ref p ∧ y = .int i ∧ SqT K H p xs ∧ atI xs i = some v ∧ Q v H
def rIxS : R2 := fun x y H Q => ∃ z i c, x = .str z ∧ y = .int i ∧ z.length ≤ sizeLine ∧ atI z.cps.toList i = some c ∧ Q (.str ⟨#[c]⟩) H
theorem ix_list : IxR X (rIxL X.K) := by
  intro value slice pins s σ H x y v u Q I rx ry h hs
  obtain ⟨p, xs, i, z, rfl, rfl, hq, he, q⟩ := h
  cases rx
  obtain ⟨t, rfl⟩ := ry
  obtain ⟨its, r, pl, hz⟩ := I.list hq
  obtain ⟨j, h1, h2, h3, h4, h5⟩ := atI_get he
  obtain ⟨w, ew, rw'⟩ := r.get h2
  have hl := r.length
  have hn := line63
  have fin : EP X pins σ Q w s := ⟨z, H, I, rw', q⟩
  by_cases h0 : 0 ≤ i
  · have hj : i.toNat = j := by
      rw [seqIndex_of h0 h5] at h1
      exact Option.some.inj h1
    exact item_listR pl.isList h0 (by omega) (by rw [hj]; simpa using ew) fin hs
  · have hj : (i + (its.toArray.size : Int)).toNat = j := by
      rw [seqIndex_neg (by omega) h4] at h1
      rw [List.size_toArray, ← hl]
      exact Option.some.inj h1
    exact subscriptTail_builtinR (x := w) pl.isList.typeIs slot_list_getitem.lookup
      (wpAny_getItem_list_neg (Q := fun r s' => r = w ∧ EP X pins σ Q r s') pl.isList (by omega) (by rw [List.size_toArray] <;> omega) (by omega) (by rw [hj]; simpa using ew) ⟨rfl, fin⟩) hs
theorem ix_tup : IxR X (rIxT X.K) := by
  intro value slice pins s σ H x y v u Q I rx ry h hs
  obtain ⟨p, xs, i, z, rfl, rfl, hq, he, q⟩ := h
  cases rx
  obtain ⟨t, rfl⟩ := ry
  obtain ⟨its, r, pl, hz⟩ := I.tuple hq
  obtain ⟨j, h1, h2, h3, h4, h5⟩ := atI_get he
  obtain ⟨w, ew, rw'⟩ := r.get h2
  have hl := r.length
  have hn := line63
  have fin : EP X pins σ Q w s := ⟨z, H, I, rw', q⟩
  exact subscriptTail_builtinR (x := w) pl.typeIs slot_tuple_getitem.lookup
    (getItem_tuple (j := j) (Q := fun r s' => r = w ∧ EP X pins σ Q r s') pl (by omega) (by omega) (by rw [List.size_toArray, ← hl]; exact h1) (by simpa using ew) ⟨rfl, fin⟩) hs
theorem ix_str : IxR X rIxS := by
  intro value slice pins s σ H x y v u Q I rx ry h hs
  obtain ⟨z, i, c, rfl, rfl, hz, he, q⟩ := h
  obtain ⟨t, rfl⟩ := rx
  obtain ⟨t', rfl⟩ := ry
  obtain ⟨j, h1, h2, h3, h4, h5⟩ := atI_get he
  have hl : z.cps.toList.length = z.length := by simp [Str.length]
  rw [hl] at h1 h4 h5
  have hn := line63
  exact tail_any (typeIs_str s z t) slot_str_getitem.lookup (getItem_str (c := c) (by
    have e1 : decide (i < -(2 ^ 63 : Int)) = false := decide_eq_false (by omega)
    have e2 : decide (i ≥ 2 ^ 63) = false := decide_eq_false (by omega)
    rw [e1, e2, Bool.or_false]) (by rw [h1]; simpa using h2) ⟨.str ⟨#[c]⟩, H, I.tok _, ⟨_, rfl⟩, q⟩) hs
theorem Inv.lst {pins : List (Addr × Obj)} {σ : St} {H : Hp} {s : Shared} {p : Addr} {xs : List V} (I : Inv X pins σ H s) (h : H p = some (.lst xs)) :
    ∃ (its : List Value) (n : Nat), Vals xs its ∧ s.heap.get? p = some { cls := .type "list", data := .seq its.toArray n } ∧ xs.length ≤ sizeLine := by
  obtain ⟨z, its, n, r, e⟩ := I.hok p _ h
  exact ⟨its, n, r, e, z⟩
theorem slice_bounds (lo hi : Option Int) (n : Nat) : (sliceBounds lo hi none n).1 = ((HT.sIx n 0 lo : Nat) : Int) ∧ (sliceBounds lo hi none n).2.1 = ((HT.sIx n n hi : Nat) : Int) ∧ (sliceBounds lo hi none n).2.2 = 1 := by
  refine ⟨?_, ?_, rfl⟩
  · cases lo with
    | none => simp [sliceBounds, HT.sIx]
    | some i =>
      simp only [sliceBounds, HT.sIx, Option.getD_none, show (1 : Int) > 0 by decide, if_true]
      by_cases h : i < 0
      · simp only [h, if_true] <;> omega
      · simp only [h, if_false] <;> omega
  · cases hi with
    | none => simp [sliceBounds, HT.sIx]
    | some i =>
      simp only [sliceBounds, HT.sIx, Option.getD_none, show (1 : Int) > 0 by decide, if_true]
      by_cases h : i < 0
      · simp only [h, if_true] <;> omega
      · simp only [h, if_false] <;> omega
theorem slicePick_cut (its : List Value) (lo hi : Option Int) : slicePick its.toArray lo hi none = ((its.drop (HT.sIx its.length 0 lo)).take (HT.sIx its.length its.length hi - HT.sIx its.length 0 lo)).toArray := by
  obtain ⟨h1, h2, h3⟩ := slice_bounds lo hi its.toArray.size
  unfold slicePick
  rw [h1, h2, h3]
  simp only [sliceRange_one, pick_run, List.size_toArray] <;> rfl
def rSlL (K : PySem.W.Frag) : V → Option Int → Option Int → Hp → VK → Prop := fun x lo hi H Q => ∃ a xs, x = .ref a ∧ SqL K H a xs ∧ ∀ p, H p = none → Q (.ref p) (upd H p (.lst (cutV xs lo hi)))
theorem sl_list : SlR X (rSlL X.K) := by
  intro pins s σ H x v vl vu lo hi sl Q I rx hs pl pu h
  obtain ⟨a, xs, rfl, hx, q⟩ := h
  cases rx
  obtain ⟨its, r, ht, hz⟩ := I.list hx
  have hlen := r.length
  refine ⟨"list", _, slot_list_getitem.lookup, ht.isList.typeIs, ?_⟩
  refine wpAny_getItem_list_slice ht.isList hs pl pu .none (by simp) ?_ (by rw [List.size_toArray] <;> omega)
  rw [slicePick_cut, ← hlen]
  refine ⟨.ref s.heap.objs.size, _, I.laid (t' := s.toks) (o := .lst (cutV xs lo hi)) (fun b ob q => Heap.get?_push_of_some _ q) (Nat.le_refl _) ?_, rfl, q _ (I.hok.fresh (Nat.le_refl _))⟩
  exact ⟨Nat.le_trans (cutV_length xs lo hi) hz, _, 0, (r.drop (HT.sIx xs.length 0 lo)).take (HT.sIx xs.length xs.length hi - HT.sIx xs.length 0 lo), Heap.get?_push_size _ rfl⟩
def flatV : V → Bool
  | .non => true
  | .bl _ => true
  | .int _ => true
  | .str _ => true
  | _ => false
def eqV : V → V → Bool
  | .non, .non => true
  | .bl a, .bl b => a == b
  | .bl a, .int b => (if a then 1 else 0) == b
  | .int a, .bl b => a == (if b then 1 else 0)
  | .int a, .int b => a == b
  | .str a, .str b => a == b
  | _, _ => false
theorem eqAt_V {A : Around} {s : Shared} {y x : V} {u v : Value} (ry : RelV y u) (rx : RelV x v) (fy : flatV y = true) (fx : flatV x = true) : SeqAt.EqAt A s u v (eqV y x) := by
  cases y with
  | non =>
    cases ry
    cases x with
    | non => cases rx; exact SeqAt.EqAt.same _
    | bl b => cases rx; exact SeqAt.EqAt.none_bool b
    | int b => obtain ⟨t, rfl⟩ := rx; exact SeqAt.EqAt.none_int b t
    | str b => obtain ⟨t, rfl⟩ := rx; exact SeqAt.EqAt.none_str b t
    | _ => exact absurd (show false = true from fx) Bool.false_ne_true
  | bl a =>
    cases ry
    cases x with
    | non => cases rx; exact SeqAt.EqAt.bool_none a
    | bl b => cases rx; exact SeqAt.EqAt.bool_bool a b
    | int b => obtain ⟨t, rfl⟩ := rx; exact SeqAt.EqAt.bool_int a b t
    | str b => obtain ⟨t, rfl⟩ := rx; exact SeqAt.EqAt.bool_str a b t
    | _ => exact absurd (show false = true from fx) Bool.false_ne_true
  | int a =>
    obtain ⟨t', rfl⟩ := ry
    cases x with
    | non => cases rx; exact SeqAt.EqAt.int_none a t'
    | bl b => cases rx; exact SeqAt.EqAt.int_bool a t' b
    | int b => obtain ⟨t, rfl⟩ := rx; exact SeqAt.EqAt.int_int a t' b t
    | str b => obtain ⟨t, rfl⟩ := rx; exact SeqAt.EqAt.int_str a t' b t
    | _ => exact absurd (show false = true from fx) Bool.false_ne_true
  | str a =>
    obtain ⟨t', rfl⟩ := ry
    cases x with
    | non => cases rx; exact SeqAt.EqAt.str_none a t'
    | bl b => cases rx; exact SeqAt.EqAt.str_bool a t' b
    | int b => obtain ⟨t, rfl⟩ := rx; exact SeqAt.EqAt.str_int a t' b t
    | str b => obtain ⟨t, rfl⟩ := rx; exact SeqAt.EqAt.str_str a t' b t
    | _ => exact absurd (show false = true from fx) Bool.false_ne_true
  | _ => exact absurd (show false = true from fy) Bool.false_ne_true
def eqU (x : V) (u : Value) : Bool := match u with
  | .none => eqV .non x
  | .bool b => eqV (.bl b) x
  | .int i _ => eqV (.int i) x
  | .str z _ => eqV (.str z) x
  | _ => false
theorem eqU_of {x y : V} {u : Value} (r : RelV y u) (f : flatV y = true) : eqU x u = eqV y x := by
  cases y with
  | non => cases r; rfl
  | bl b => cases r; rfl
  | int i => obtain ⟨t, rfl⟩ := r; rfl
  | str z => obtain ⟨t, rfl⟩ := r; rfl
  | _ => exact absurd (show false = true from f) Bool.false_ne_true
theorem any_eqU {x : V} : ∀ {xs : List V} {us : List Value}, Vals xs us → xs.all flatV = true → us.any (eqU x) = xs.any fun y => eqV y x
  | _, _, .nil, _ => rfl
  | y :: xs, u :: us, .cons r t, f => by
    rw [List.all_cons, Bool.and_eq_true] at f
    rw [List.any_cons, List.any_cons, eqU_of r f.1, any_eqU t f.2]
theorem mem_eqAt {A : Around} {s : Shared} {x : V} {v : Value} (rx : RelV x v) (fx : flatV x = true) : ∀ {xs : List V} {us : List Value}, Vals xs us → xs.all flatV = true → ∀ u ∈ us, SeqAt.EqAt A s u v (eqU x u)
  | _, _, .nil, _ => fun u hu => by cases hu
  | y :: xs, u :: us, .cons r t, f => fun u' hu => by
    rw [List.all_cons, Bool.and_eq_true] at f
    rcases List.mem_cons.mp hu with rfl | hu
    · rw [eqU_of r f.1]; exact eqAt_V r rx f.1 fx
    · exact mem_eqAt rx fx t f.2 u' hu
def inV (x : V) (xs : List V) : Bool := xs.any fun y => eqV y x
def rIn (K : PySem.W.Frag) (neg : Bool) : R2 := fun x y H Q => ∃ p xs, y = .ref p ∧ (SqL K H p xs ∨ SqT K H p xs) ∧ flatV x = true ∧ xs.all flatV = true ∧ Q (.bl (if neg then !inV x xs else inV x xs)) H
theorem op_notIn_seq : OpR X (compareOp .NotIn) (rIn X.K true) := by
  intro pins s σ H x y v u Q I rx ry h
  obtain ⟨p, xs, rfl, hq, fx, fs, q⟩ := h
  cases ry
  rcases hq with hq | hq
  · obtain ⟨its, r, pl, hz⟩ := I.list hq
    refine SeqAt.notIn_listAt (eqU x) pl.isList (fun w hw => mem_eqAt rx fx r fs w (by simpa using hw)) ⟨.bl _, H, I, rfl, ?_⟩
    rw [show its.toArray.any (eqU x) = its.any (eqU x) by simp, any_eqU r fs]
    exact q
  · obtain ⟨its, r, pl, hz⟩ := I.tuple hq
    refine SeqAt.notIn_tupleAt (eqU x) pl (fun w hw => mem_eqAt rx fx r fs w (by simpa using hw)) ⟨.bl _, H, I, rfl, ?_⟩
    rw [show its.toArray.any (eqU x) = its.any (eqU x) by simp, any_eqU r fs]
    exact q
theorem call_len_seq : CallR X (.builtin "len") (fun xs H Q => ∃ p ys, xs = [.ref p] ∧ (SqL X.K H p ys ∨ SqT X.K H p ys) ∧ Q (.int ys.length) H) := by
  intro pins s σ H xs us Q I r h
  obtain ⟨p, ys, rfl, hq, q⟩ := h
  obtain ⟨u, rfl, rx⟩ := vals1 r
  cases rx
  have hn := line63
  rcases hq with hq | hq
  · obtain ⟨its, r', pl, hz⟩ := I.list hq
    have hlen := r'.length
    exact Calls.call_len_list pl.isList (by simp only [List.size_toArray] <;> omega) ⟨.int ys.length, H, I.tok _, ⟨s.toks + 1, by rw [List.size_toArray, hlen]⟩, q⟩
  · obtain ⟨its, r', pl, hz⟩ := I.tuple hq
    have hlen := r'.length
    exact len_tuple pl (by simp only [List.size_toArray] <;> omega) ⟨.int ys.length, H, I.tok _, ⟨s.toks + 1, by rw [List.size_toArray, hlen]⟩, q⟩
theorem call_len_str : CallR X (.builtin "len") (fun xs H Q => ∃ z, xs = [.str z] ∧ z.length ≤ sizeLine ∧ Q (.int z.length) H) := by
  intro pins s σ H xs us Q I r h
  obtain ⟨z, rfl, hz, q⟩ := h
  obtain ⟨u, rfl, t, rfl⟩ := vals1 r
  have hn := line63
  exact len_str (by omega) ⟨.int z.length, H, I.tok _, ⟨_, rfl⟩, q⟩
theorem CallR.or {f : Value} {r r' : List V → Hp → VK → Prop} (h : CallR X f r) (h' : CallR X f r') : CallR X f (fun xs H Q => r xs H Q ∨ r' xs H Q) := by
  intro pins s σ H xs us Q I rs q
  rcases q with q | q
  · exact h pins s σ H xs us Q I rs q
  · exact h' pins s σ H xs us Q I rs q
theorem call_tuple_of : CallR X (.type "tuple") (fun xs H Q => ∃ p ys, xs = [.ref p] ∧ ((SqL X.K H p ys ∧ ∀ l, H l = none → Q (.ref l) (upd H l (.tup ys))) ∨ (SqT X.K H p ys ∧ Q (.ref p) H))) := by
  intro pins s σ H xs us Q I r h
  obtain ⟨p, ys, rfl, h⟩ := h
  obtain ⟨u, rfl, rx⟩ := vals1 r
  cases rx
  rcases h with ⟨hq, q⟩ | ⟨hq, q⟩
  · obtain ⟨its, r', pl, hz⟩ := I.list hq
    have hlen := r'.length
    refine call_tuple_list pl.isList (fun h' kp => ?_) (by simp only [List.size_toArray] <;> omega)
    have I1 : Inv X pins σ H { s with heap := h' } := I.kept (t' := s.toks) kp
    have I2 : Inv X pins σ (upd H h'.objs.size (.tup ys)) { s with heap := h'.push { cls := .type "tuple", data := .seq its.toArray } } :=
      I1.laid (t' := s.toks) (fun b o e => Heap.get?_push_of_some _ e) (Nat.le_refl _) (show ObjOk X.prog X.w _ _ _ (.tup ys) from ⟨hz, its, r', IsTup.new _ _⟩)
    exact ⟨.ref h'.objs.size, _, I2, rfl, q _ (I1.hok.fresh (Nat.le_refl _))⟩
  · obtain ⟨its, r', pl, hz⟩ := I.tuple hq
    exact call_tuple_same pl ⟨.ref p, H, I, rfl, q⟩
def tyV (K : PySem.W.Frag) (T : String) (x : V) (H : Hp) : Prop := match x with
  | .str _ => T = "str"
  | .int _ => T = "int"
  | .ref p => (T = "list" ∧ ∃ xs, SqL K H p xs) ∨ (T = "tuple" ∧ ∃ o, K.lookup p = some o ∧ o.cls = .type "tuple" ∧ o.dict = none) ∨
      (T = "dict" ∧ ((∃ kvs, H p = some (.dK kvs)) ∨ ∃ kvs, H p = some (.dT kvs))) ∨ (T = "set" ∧ ∃ S n, H p = some (.set S n))
  | _ => False
theorem tyV_is {pins : List (Addr × Obj)} {σ : St} {H : Hp} {s : Shared} {T : String} {x : V} {v : Value} (I : Inv X pins σ H s) (r : RelV x v) (ty : tyV X.K T x H) :
    s.TypeIs v T ∧ ∀ a, v = .ref a → ∃ ob, s.heap.get? a = some ob ∧ ob.dict = none := by
  cases x with
  | str z =>
    obtain ⟨t, rfl⟩ := r
    cases (show T = "str" from ty)
    exact ⟨typeIs_str s z t, fun _ e => nomatch e⟩
  | int i =>
    obtain ⟨t, rfl⟩ := r
    cases (show T = "int" from ty)
    exact ⟨typeIs_int s i t, fun _ e => nomatch e⟩
  | ref p =>
    cases r
    rcases ty with ⟨rfl, xs, hq⟩ | ⟨rfl, o, hk, hc, hd⟩ | ⟨rfl, hk⟩ | ⟨rfl, S, n, hk⟩
    · obtain ⟨its, _, pl, _⟩ := I.list hq
      refine ⟨pl.isList.typeIs, fun a e => ?_⟩
      cases e
      obtain ⟨o, n, e, c, hd, _⟩ := pl
      exact ⟨o, e, hd⟩
    · refine ⟨⟨o, I.kIn p o hk, hc⟩, fun a e => ?_⟩
      cases e
      exact ⟨o, I.kIn _ o hk, hd⟩
    · have z : ∃ o, s.heap.get? p = some o ∧ o.ExactDict := by
        rcases hk with ⟨kvs, hk⟩ | ⟨kvs, hk⟩
        · obtain ⟨_, _, _, _, o, _, _, e, ex, _⟩ := I.hok p _ hk
          exact ⟨o, e, ex⟩
        · obtain ⟨_, _, _, _, o, _, _, e, ex, _⟩ := I.hok p _ hk
          exact ⟨o, e, ex⟩
      obtain ⟨o, e, ex⟩ := z
      refine ⟨⟨o, e, ex.1⟩, fun a e2 => ?_⟩
      cases e2
      exact ⟨o, e, ex.2.1⟩
    · obtain ⟨o, _, _, _, e, ex, _⟩ := I.hok p _ hk
      refine ⟨⟨o, e, ex.1⟩, fun a e2 => ?_⟩
      cases e2
      exact ⟨o, e, ex.2.1⟩
  | _ => exact False.elim ty
def tBM0 (K : PySem.W.Frag) (T : String) (r : V → List V → Hp → VK → Prop) (to : TE) : TE := fun σ H Q => to σ H fun x H1 => tyV K T x H1 ∧ r x [] H1 Q
def tBM (K : PySem.W.Frag) (T : String) (r : V → List V → Hp → VK → Prop) (to : TE) (t : TA) : TE := fun σ H Q => to σ H fun x H1 => tyV K T x H1 ∧ t σ H1 fun xs H2 => r x xs H2 Q
variable {o e : Expr} {es : List Expr} {to : TE} {t : TA} {name : Str} {apos cpos : Pos} {T id : String} {r : V → List V → Hp → VK → Prop}
theorem pe_bm0 (pa : PlainAttrs T) (slot : Slot T name id) (hty : typeOf (.builtin id) = pure (.type "method_descriptor")) (hm : MtR X id r) (ho : PE X o to)
    (hbase : attributeBase o name X.env (eval o X.env) = eval o X.env := by rfl) (hline : (apos.endLine == cpos.line) = true := by rfl) : PE X (.Call (.Attribute o name apos) [] [] cpos) (tBM0 X.K T r to) := by
  intro pins s σ H Q I h
  refine wpAny_Call_method0_late hbase hline (thn (ho pins s σ H _ I h) fun v s1 ⟨x, H1, I1, r1, ty, q1⟩ => ?_)
  obtain ⟨h1, h2⟩ := tyV_is I1 r1 ty
  exact ⟨T, id, pa, slot, hty, h1, h2, Calls.callWith_builtin rfl (PySem.evalArgs_none (hm pins s1 σ H1 x [] v [] Q I1 r1 .nil q1))⟩
theorem pe_bm (pa : PlainAttrs T) (slot : Slot T name id) (hty : typeOf (.builtin id) = pure (.type "method_descriptor")) (hm : MtR X id r) (ho : PE X o to) (ha : PA X (e :: es) t)
    (hbase : attributeBase o name X.env (eval o X.env) = eval o X.env := by rfl)
    (hfew : ((backTo cpos (starEach (e :: es) X.env)).all (fun x => !x.1) && (backToKw cpos (keywordEach [] X.env)).all (fun x => x.1.isSome)
      && decide ((e :: es).length + ([] : List Keyword).length + (if ([] : List Keyword).isEmpty then 0 else 1) < 30)) = true := by rfl)
    (hline : (apos.endLine == cpos.line) = true := by rfl) (hs : starEach (e :: es) X.env = (false, eval e X.env) :: starEach es X.env := by rfl) (hplain : (backTo cpos (starEach es X.env)).any (·.1) = false := by rfl) :
    PE X (.Call (.Attribute o name apos) (e :: es) [] cpos) (tBM X.K T r to t) := by
  intro pins s σ H Q I h
  refine wpAny_Call_method_late hbase hfew hline rfl (thn (ho pins s σ H _ I h) fun v s1 ⟨x, H1, I1, r1, ty, q1⟩ => ?_)
  obtain ⟨h1, h2⟩ := tyV_is I1 r1 ty
  refine ⟨T, id, pa, slot, hty, h1, h2, ?_⟩
  have hA := ha cpos pins s1 σ H1 _ I1 q1
  rw [hs] at hA ⊢
  refine Calls.callWith_builtin (by show (false || (backTo cpos (starEach es X.env)).any (·.1)) = false; rw [hplain] <;> rfl) (Calls.evalArgs_plain ?_)
  exact thn hA fun us s2 ⟨vs, H2, I2, r2, q2⟩ => hm pins s2 σ H2 x vs v us Q I2 r1 r2 q2
end
end L2
namespace L2
open PySem PySem.Spec PyProof.Rows
def MtM (X : Cx) (id : String) (r : V → List V → Hp → VK → Prop) : Prop :=
  ∀ (pins : List (Addr × Obj)) (s : Shared) (σ : St) (H : Hp) (x : V) (xs : List V) (v : Value) (us : List Value) (Q : VK), Inv X pins σ H s → RelV x v → Vals xs us → r x xs H Q →
    wpAny (model X.prog X.w) X.A (call (.builtin id) (v :: us)) (EP X pins σ Q) X.xe s
theorem Vals.one : ∀ {x : V} {us : List Value}, Vals [x] us → ∃ u, us = [u] ∧ RelV x u
  | _, _, .cons r .nil => ⟨_, rfl, r⟩
theorem Vals.zero : ∀ {us : List Value}, Vals [] us → us = []
  | _, .nil => rfl
section
variable {X : Cx} {pins : List (Addr × Obj)} {σ : St} {H : Hp} {s : Shared} {l b : Addr} {xs ys zs : List V}
theorem Inv.lset {its its' : List Value} {n : Nat} {f : Array Value → Array Value} {t' : Nat} (I : Inv X pins σ H s) (hH : H l = some (.lst xs))
    (e : s.heap.get? l = some { cls := .type "list", data := .seq its.toArray n }) (hf : f its.toArray = its'.toArray) (hv : Vals ys its') (hz : ys.length ≤ sizeLine) :
    Inv X pins σ (upd H l (.lst ys)) { s with heap := s.heap.update l (Obj.mapSeq f), toks := t' } := by
  have q := PySem.IsL.update e f
  rw [hf] at q
  refine I.write (x := l) (e := l) (by rw [hH]; exact trivial) (.inl rfl) (fun b' u hb hu => (Heap.get?_update_other s.heap (Obj.mapSeq f) (Ne.symm hb)).trans hu) ⟨_, q⟩ ?_
  exact ⟨hz, its', _, hv, q⟩
theorem Inv.lnew {its : List Value} {t' : Nat} (I : Inv X pins σ H s) (hv : Vals ys its) (hz : ys.length ≤ sizeLine) :
    Inv X pins σ (upd H s.heap.objs.size (.lst ys)) { s with heap := s.heap.push { cls := .type "list", data := .seq its.toArray }, toks := t' } :=
  I.laid (fun _ _ q => Heap.get?_push_of_some _ q) (Nat.le_refl _) ⟨hz, its, 0, hv, Heap.get?_push_size _ rfl⟩
theorem Inv.fresh (I : Inv X pins σ H s) : H s.heap.objs.size = none := I.hok.fresh (Nat.le_refl _)
theorem Inv.lstM (I : Inv X pins σ H s) (hH : H l = some (.lst xs)) : xs.length ≤ sizeLine ∧ ∃ (its : List Value) (n : Nat), Vals xs its ∧ xs.length = its.length ∧ s.heap.get? l = some { cls := .type "list", data := .seq its.toArray n } := by
  obtain ⟨z, its, n, r, e⟩ := I.hok l _ hH
  exact ⟨z, its, n, r, r.length, e⟩
end
section
variable {X : Cx}
def rAppend : V → List V → Hp → VK → Prop := fun x vs H Q => ∃ l xs y, x = .ref l ∧ vs = [y] ∧ H l = some (.lst xs) ∧ xs.length < sizeLine ∧ Q .non (upd H l (.lst (xs ++ [y])))
theorem mt_append : MtM X "list.append" rAppend := by
  intro pins s σ H x vs v us Q I rx rv h
  obtain ⟨l, xs, y, rfl, rfl, hH, hz, q⟩ := h
  cases rx
  obtain ⟨u, rfl, ru⟩ := rv.one
  obtain ⟨z, its, n, r, hl, e⟩ := I.lstM hH
  refine call_meets F.slot_list_append ⟨_, e, rfl⟩ F.entry_list_append (F.args_list_append_2 _ _) (PySem.list_append l its.toArray n u (by rw [List.size_toArray]; omega)) ⟨e, ?_⟩
  refine ⟨.non, _, I.lset (its' := its ++ [u]) hH e (by simp) (r.append (.cons ru .nil)) ?_, rfl, q⟩
  rw [List.length_append, List.length_singleton]
  omega
def rCat : R2 := fun x y H Q => ∃ l b xs zs, x = .ref l ∧ y = .ref b ∧ H l = some (.lst xs) ∧ H b = some (.lst zs) ∧ xs.length + zs.length ≤ sizeLine ∧ ∀ p, H p = none → Q (.ref p) (upd H p (.lst (xs ++ zs)))
theorem op_cat : OpR X (binaryOp .Add) rCat := by
  intro pins s σ H x y v u Q I rx ry h
  obtain ⟨l, b, xs, zs, rfl, rfl, hH, hB, hz, q⟩ := h
  cases rx
  cases ry
  obtain ⟨z, its, n, r, hl, e⟩ := I.lstM hH
  obtain ⟨z2, its2, n2, r2, hl2, e2⟩ := I.lstM hB
  refine PySem.P.add_list e e2 ?_ (by rw [List.size_toArray, List.size_toArray]; omega)
  have ea : its.toArray ++ its2.toArray = (its ++ its2).toArray := by simp
  rw [ea]
  exact ⟨.ref _, _, I.lnew (t' := s.toks) (r.append r2) (by rw [List.length_append]; omega), rfl, q _ I.fresh⟩
end
section
variable {prog : Program} {w : World} {A : Around} {E : Value → Shared → Prop} {s : Shared}
end
section
variable {X : Cx}
end
end L2
namespace Att
open PySem PySem.W PySem.Calls PyProof.Rows
theorem ints_of_wellAll {P : Params} {h : Heap} : ∀ (ns : List Int) (vs : List Value), WellAll P h vs (ns.map WData.int) → IntsAre vs ns := by
  intro ns
  induction ns with
  | nil =>
    intro vs w
    rw [List.map_nil] at w
    cases w
    exact .nil
  | cons n ns ih =>
    intro vs w
    rw [List.map_cons] at w
    cases w with
    | cons a b =>
      cases a
      exact .cons _ _ (ih _ b)
theorem script_of {l : OpenLaw} {n : Nat} (hn : l.most = some n) {P : Params} {h : Heap} {args : List WData} {vals : List Value}
    (hpre : l.row.toRowW.claim.pre args = true) (hwl : WellAll P h vals args) :
    ∃ a vs ns, vals = [Value.ref a] ∧ args = [WData.list (ns.map WData.int)] ∧ h.get? a = some { cls := .type "list", data := .seq vs.toArray } ∧ IntsAre vs ns ∧ ns.length ≤ n := by
  have hsh : WShape.hasAll [] args [.list .int] = true := (pre_splitW hpre).1
  have hc : l.pre.holds [] { args := args } = true := (pre_splitW hpre).2
  obtain ⟨d, r, rfl, h1, h2⟩ := hasAllW_cons hsh
  obtain rfl := hasAllW_nil h2
  obtain ⟨xs, rfl, h3⟩ := hasW_list h1
  obtain ⟨ns, rfl⟩ := items_int h3
  have hlen : ns.length ≤ n := by
    unfold OpenLaw.pre at hc
    have h4 : (WTm.not (.lt (.lit (.int (n : Int))) (.len (.arg 0)))).holds [] { args := [.list (ns.map .int)] } = true := by
      have h4 := (holds_andW hc).1
      rw [hn] at h4
      exact h4
    have h5 := condW_of h4 (w_not (w_lt w_lit (w_len_list (w_arg rfl))))
    rw [List.length_map] at h5
    refine Nat.le_of_not_lt fun q => ?_
    have q' : (n : Int) < ((ns.length : Nat) : Int) := by omega
    first
      | (rw [decide_eq_true q'] at h5; exact absurd h5 (by decide))
      | (simp at h5; omega)
  cases hwl with
  | cons w1 w2 =>
    cases w2
    cases w1 with
    | list ho hall => exact ⟨_, _, ns, rfl, rfl, ho, ints_of_wellAll ns _ hall, hlen⟩
theorem post_true (l : OpenLaw) (args : List WData) : l.row.toRowW.claim.post args (.bool true) args = true :=
  postW_of (r := l.row.toRowW) (X := (true == true))
    (show WShape.has [] (.bool true) .bool = true by first | rfl | decide | simp [WShape.has, WShape.arms, WShape.armsAll])
    (show (WTm.eq .res (.lit (.bool true))).value [] { args := args, res := some (.bool true), after := args } = some (.bool (true == true)) from w_eq_bool (w_res rfl) w_lit) rfl
theorem attach_call {l : OpenLaw} {n : Nat} {q : Program} {loose : List Str} {XP : (Str → Option Value) → Heap → Prop} {YP : World → Heap → Prop} {d : DefRec}
    (hn : l.most = some n) (hdf : d.params.defaults = [])
    (call : ∀ (w : World) (s₀ s₁ : Shared) (mg mb : Str → Option Value) (fa : Addr) (o : Obj) (pm cd doc : Value) (a : Addr) (vs : List Value) (ns : List Int),
      Ground q loose [] XP w s₀ mg mb s₁.heap → YP w s₁.heap →
      s₁.heap.get? fa = some o → o.data = .func (docDef d.name d.params d.body d.scope pm cd doc) → s₁.heap.CodeRec cd d.name → mg d.name = some (.ref fa) →
      s₁.heap.get? a = some { cls := .type "list", data := .seq vs.toArray } → IntsAre vs ns → ns.length ≤ n → s₁.gens = #[] →
      codeAny (model l.prog w) callerA (.call (.ref fa) ⟨[.ref a], []⟩) (fun r s' => r = .ok (.ret (.bool true)) ∧ OldK s₁.heap s'.heap ∧ s'.os = s₁.os ∧ AllBare s'.gens) s₁) :
    WalkO q loose XP YP l.row.toRowW d [] (fun f vs => PySem.call f vs) := by
  intro w s₀ s₁ mg mb G Y fa o pm cd doc dV kV ho hd hcd hD hmg hg args vals as hpre hlay hrd hwl hlo
  obtain rfl : dV = .none := Dflts.none hD hdf
  obtain rfl : kV = .none := Dflts.noKw hD
  obtain ⟨a, vs, ns, rfl, rfl, hobj, hints, hlen⟩ := script_of hn hpre hwl
  refine enter_call (codeAny_mono (call w s₀ s₁ mg mb fa o pm cd doc a vs ns G Y ho (fd_plain hd) hcd hmg hobj hints hlen hg) fun r s' hq => ?_)
  obtain ⟨rfl, h2, h3, h4⟩ := hq
  exact ⟨.inl ⟨.bool true, .bool true, [], rfl, fun _ => rfl, .bool true, post_true l _, fun _ => ⟨List.Pairwise.nil, fun _ hm => (nomatch hm)⟩⟩, h2, h3, h4⟩
section
variable {prog : Program} {w : World} {A : Around} {E : Value → Shared → Prop} {s : Shared} {K : Frag}
end
end Att
namespace L2
open PySem PySem.Spec PyProof.Rows
theorem vals_ints : ∀ {vs : List Value} {ns : List Int}, IntsAre vs ns → Vals (ns.map V.int) vs
  | _, _, .nil => .nil
  | _, _, .cons n t h => .cons ⟨t, rfl⟩ (vals_ints h)
def Only (H : Hp) : Prop := ∀ b, H b = none ∨ ∃ o xs, H b = some (.frz o (.lst xs))
theorem law_call {P : Program} {w : World} {K : PySem.W.Frag} {mg mb : Str → Option Value} {CX : CXT} {k : Nat} {fa a : Addr} {fd : FuncData} {x : Str} {sp : Sp} {s₁ : Shared} {vs : List Value} {ns : List Int}
    (KX : K.In s₁.heap) (hns : s₁.heap.Ns mainGlobals mg) (hb : s₁.heap.Ns builtinsNs mb) (hbb : ∀ x : Str, x ≠ "__name__" → mb x = bootBuiltins x) (hlim : s₁.heap.NoLimit) (hg : s₁.gens = #[])
    (ha : s₁.heap.get? a = some { cls := .type "list", data := .seq vs.toArray }) (hi : IntsAre vs ns) (hl : ns.length ≤ sizeLine) (hr : Room k callerA)
    (F : ∀ base : Heap, K.In base → base.Ns mainGlobals mg → FnOk P w K mg base CX k fa fd [x] sp) (hbind : ∀ (s : Shared) (u : Value), BindsTo s fd ⟨[u], []⟩ [(x, u)])
    (hsp : ∀ H : Hp, Only H → SqL K H a (ns.map V.int) → sp [.ref a] H (fun v _ => v = .bl true) fun _ _ _ => False)
    (hCX : ∀ H e s', CX [] H s₁ (fun _ _ _ => False) e s' → False) :
    codeAny (model P w) callerA (.call (.ref fa) ⟨[.ref a], []⟩) (fun r s' => r = .ok (.ret (.bool true)) ∧ OldK s₁.heap s'.heap ∧ s'.os = s₁.os ∧ AllBare s'.gens) s₁ := by
  have rv := vals_ints hi
  have lenV := hi.length
  have core : ∀ H : Hp, Only H → SqL K H a (ns.map V.int) → HOk P w H s₁.heap → (∀ b, H b ≠ none → b = a) → (H a ≠ none → K.lookup a = none) →
      codeAny (model P w) callerA (.call (.ref fa) ⟨[.ref a], []⟩) (fun r s' => r = .ok (.ret (.bool true)) ∧ OldK s₁.heap s'.heap ∧ s'.os = s₁.os ∧ AllBare s'.gens) s₁ := by
    intro H hO hS hok hA hK
    have base_of : ∀ {b : Addr} {o : Obj}, s₁.heap.get? b = some o → H b = none → (hidT s₁.heap H).get? b = some o := fun e n => hidT_get e n
    have noA : ∀ {b : Addr} {o : Obj} {es : Array DictEntry} {ep : Nat}, s₁.heap.get? b = some o → o.data = .dict es ep → H b = none := fun {b o es ep} e d => by
      cases q : H b with
      | none => rfl
      | some u =>
        have e' : b = a := hA b (by rw [q]; simp)
        subst e'
        rw [ha] at e; cases e
        have d' : Data.seq vs.toArray _ = Data.dict es ep := d
        cases d'
    have nsK : ∀ {b : Addr} {m : Str → Option Value}, s₁.heap.Ns b m → (hidT s₁.heap H).Ns b m := fun {b m} ⟨o, es, ep, e, d, r⟩ => ⟨o, es, ep, base_of e (noA e d), d, r⟩
    have hKb : K.In (hidT s₁.heap H) := fun b o e => base_of (KX b o e) (by
      cases q : H b with
      | none => rfl
      | some u =>
        have e' : b = a := hA b (by rw [q]; simp)
        subst e'
        rw [hK (by rw [q]; simp)] at e; cases e)
    have hM : Mod K mg (hidT s₁.heap H) := ⟨hKb, nsK hns, ⟨mb, nsK hb, hbb⟩, let ⟨mc, h1, h2⟩ := hlim; ⟨mc, nsK h1, h2⟩⟩
    have e0 : Env0 P w K mg (hidT s₁.heap H) callerA [] s₁ H := ⟨rfl, hM, fun b o e => of_hidT e, Nat.le_of_eq (hidT_size _ _), trivial, fun b hb => absurd (show b ∈ ([] : List Addr) from hb) (by simp), hok, .of_eq hg⟩
    refine codeAny_mono ((F _ hKb (nsK hns)).run callerA [] s₁ H ⟨[.ref a], []⟩ [.ref a] [.ref a] _ _ hr e0 (hbind s₁ (.ref a)) (.cons rfl .nil) (hsp H hO hS)) fun r s' h => ?_
    cases r with
    | error e => exact (hCX H e s' h).elim
    | ok fl =>
      cases fl with
      | next => exact False.elim h
      | brk => exact False.elim h
      | cont => exact False.elim h
      | ret u =>
        obtain ⟨v, H', os, bare, un, hok', r', q⟩ := h
        have q' : v = .bl true := q
        subst q'
        obtain rfl : u = Value.bool true := r'
        refine ⟨rfl, OldK.of_keep fun b o e => ?_, os, bare⟩
        cases q : H b with
        | none => exact un.keep b o e q (by intro z; exact absurd (show b ∈ ([] : List Addr) from z) (by simp)) (by simp)
        | some u =>
          rcases hO b with z | ⟨ob, xs, z⟩
          · rw [q] at z; cases z
          · have z2 := un.frzs b ob _ z
            obtain ⟨e1, _⟩ := hok b _ z
            obtain ⟨e2, _⟩ := hok' b _ z2
            rw [e] at e1; cases e1
            exact e2
  cases hk : K.lookup a with
  | some o =>
    have e := KX a o hk
    rw [ha] at e
    cases e
    refine core (fun _ => none) (fun _ => .inl rfl) (.inr ⟨_, vs.toArray, _, hk, rfl, rfl, rfl, by rw [List.size_toArray, lenV]; exact hl, by simpa using rv⟩) (fun b u z => by have z' : (none : Option HO) = some u := z; cases z') (fun b z => absurd rfl z) fun z => absurd rfl z
  | none =>
    refine core (fun b => if b = a then some (.frz { cls := .type "list", data := .seq vs.toArray } (.lst (ns.map V.int))) else none) (fun b => ?_) (.inl (.inr ⟨{ cls := .type "list", data := .seq vs.toArray }, if_pos rfl⟩)) (fun b u z => ?_) (fun b z => ?_) fun _ => hk
    · by_cases hb : b = a
      · exact .inr ⟨_, _, if_pos hb⟩
      · exact .inl (if_neg hb)
    · by_cases hb : b = a
      · have z' := (if_pos hb).symm.trans z
        cases z'
        subst hb
        exact ⟨ha, by rw [List.length_map]; exact hl, vs, _, rv, ha⟩
      · have z' := (if_neg hb).symm.trans z
        cases z'
    · by_cases hb : b = a
      · exact hb
      · exact absurd (if_neg hb) z
end L2
namespace L2
open PySem PySem.Spec PyProof.Rows
abbrev KOf {K : PySem.W.Frag} {h : Heap} (_ : K.In h) : PySem.W.Frag := K
theorem walk_of {l : PySem.W.OpenLaw} {n k : Nat} {q : Program} {loose : List Str} {XP : (Str → Option Value) → Heap → Prop} {YP : World → Heap → Prop} {d : DefRec} {K : Params → PySem.W.Frag} {CX : World → CXT} {sp : World → Sp} {x : Str}
    (hn : l.most = some n) (hn2 : n ≤ sizeLine) (hdf : d.params.defaults = []) (hr : Room k callerA)
    (hY : ∀ (w : World) (h : Heap), YP w h → (K w.params).In h)
    (F : ∀ (w : World) (mg : Str → Option Value) (fa : Addr) (h : Heap), (K w.params).In h → h.Ns mainGlobals mg → mg d.name = some (.ref fa) →
      ∃ fd : FuncData, (∀ (s : Shared) (u : Value), BindsTo s fd ⟨[u], []⟩ [(x, u)]) ∧
        ∀ base : Heap, (K w.params).In base → base.Ns mainGlobals mg → FnOk l.prog w (K w.params) mg base (CX w) k fa fd [x] (sp w))
    (hsp : ∀ (w : World) (H : Hp) (a : Addr) (ns : List Int), ns.length ≤ n → Only H → SqL (K w.params) H a (ns.map V.int) → sp w [.ref a] H (fun v _ => v = .bl true) fun _ _ _ => False)
    (hCX : ∀ (w : World) (H : Hp) (s : Shared) (e : Value) (s' : Shared), CX w [] H s (fun _ _ _ => False) e s' → False) :
    PySem.W.WalkO q loose XP YP l.row.toRowW d [] (fun f vs => PySem.call f vs) := by
  refine Att.attach_call hn hdf fun w s₀ s₁ mg mb fa o pm cd doc a vs ns G Y ho hd hcd hmg hobj hints hlen hg => ?_
  have KX := hY w _ Y
  obtain ⟨fd, hb, hF⟩ := F w mg fa _ KX G.T.g hmg
  exact law_call KX G.T.g G.T.b G.T.builtins G.T.nolimit hg hobj hints (Nat.le_trans hlen hn2) hr hF hb (fun H hO hS => hsp w H a ns hlen hO hS) fun H e s' => hCX w H s₁ e s'
end L2
namespace L2
open PySem PySem.Spec PyProof.Rows
def inClass (s : Stmt) (j : Nat) : Stmt := match s with
  | .ClassDef _ _ _ body _ _ _ _ _ _ _ => body.getD j (.Pass ⟨0, 0, 0, 0⟩)
  | _ => .Pass ⟨0, 0, 0, 0⟩
def defArgs (s : Stmt) : Arguments := match s with
  | .FunctionDef _ a _ _ _ _ _ _ _ _ => a
  | _ => { posonlyargs := [], args := [], vararg := none, kwonlyargs := [], kw_defaults := [], kwarg := none, defaults := [] }
def defBody (s : Stmt) : List Stmt := match s with
  | .FunctionDef _ _ b _ _ _ _ _ _ _ => b
  | _ => []
def defScope (s : Stmt) : Scope := match s with
  | .FunctionDef _ _ _ _ _ _ sc _ _ _ => sc
  | _ => { kind := .function, names := [], isGenerator := false, isCoroutine := false }
abbrev CX0 : CXT := fun _ _ _ _ _ _ => False
abbrev E0 : XK := fun _ _ _ => False
structure Fun (K : PySem.W.Frag) (x qual : Str) (st : Stmt) (f : Addr) (fd : FuncData) : Prop where
  ex : ∃ (oc : Value) (od : Option Addr) (kV doc pm : Value) (an : Option Addr) (cdv ct : Value) (osl : Array (Option Value)),
    fd = PySem.W.fnOf x qual (defArgs st) (defBody st) (defScope st) .none kV doc pm an cdv ct ∧ K.lookup f = some ⟨oc, od, .func fd, osl⟩ ∧ PySem.W.codeIn K cdv qual = true
  kp : PySem.W.keepIn K (.ref f) = true
section
variable {P : Program} {w : World} {K : PySem.W.Frag} {mg : Str → Option Value} {base : Heap}
theorem Fun.ok {x qual : Str} {st : Stmt} {f : Addr} {fd : FuncData} {N ps : List Str} {k : Nat} {sp : Sp} (F : Fun K x qual st f fd) (S : FnScope N ps (defScope st)) (len : ∀ vs H Q E, sp vs H Q E → vs.length = ps.length)
    (hbody : ∀ (cdv : Value) (A : Around) (outer : List Env) (s : Shared) (H : Hp) (vs : List V) (Q : VK) (E : XK), Room k (A.deeper (envOfC qual (defScope st) s.heap.objs.size f cdv)) → sp vs H Q E →
      ∃ t, PSs (cxOf CX0 P w K mg base N qual (defScope st) f cdv A outer s H E).nox (defBody st) t ∧ t { nx := fun _ H' => Q .non H', rt := Q } (start N vs) H) : FnOk P w K mg base CX0 (k + 1) f fd ps sp := by
  obtain ⟨oc, od, kV, doc, pm, an, cdv, ct, osl, rfl, lk, hcd⟩ := F.ex
  refine fn_of lk hcd S len fun A outer s H vs Q E hr hsp => ?_
  obtain ⟨t, h, q⟩ := hbody cdv A outer s H vs Q E hr hsp
  exact ⟨t, h.nox, q⟩
theorem Fun.binds {x qual : Str} {st : Stmt} {f : Addr} {fd : FuncData} {ps : List Str} (F : Fun K x qual st f fd)
    (h : ∀ (kV doc pm : Value) (an : Option Addr) (cdv ct : Value) (us : List Value), us.length = ps.length → bindArgs (PySem.W.fnOf x qual (defArgs st) (defBody st) (defScope st) .none kV doc pm an cdv ct) ⟨us, []⟩ = pure (ps.zip us)) : Binds K fd ps [] := by
  obtain ⟨oc, od, kV, doc, pm, an, cdv, ct, osl, rfl, lk, hcd⟩ := F.ex
  exact .all (h kV doc pm an cdv ct)
end
section
variable {X : Cx}
theorem pv (i : Nat) {x : Str} {pos : Pos} (hN : X.N[i]? = some x := by rfl) (hv : Vis X.env.scope x := by first | exact Or.inl rfl | exact Or.inr (Or.inl rfl) | exact Or.inr (Or.inr rfl)) (hd : (x == ("__debug__" : Str)) = false := by decide)
    (hcd : (x == ("__classdict__" : Str)) = false := by decide) : PE X (.Name x pos) (tVar i) := pe_var hN hv hd hcd
end
def Same (H H' : Hp) : Prop := ∀ b o, H b = some o → H' b = some o
theorem Same.refl (H : Hp) : Same H H := fun _ _ h => h
theorem Same.trans {H H1 H2 : Hp} (a : Same H H1) (b : Same H1 H2) : Same H H2 := fun c o h => b c o (a c o h)
theorem Same.free {H H' : Hp} (e : Same H H') {l : Addr} (h : H' l = Option.none) : H l = Option.none := by
  cases q : H l with
  | none => rfl
  | some o =>
    rw [e l o q] at h
    cases h
theorem Same.seq {K : PySem.W.Frag} {H H' : Hp} {a : Addr} {xs : List V} (e : Same H H') (h : SqL K H a xs) : SqL K H' a xs := by
  rcases h with (h | ⟨o, h⟩) | h
  · exact .inl (.inl (e _ _ h))
  · exact .inl (.inr ⟨o, e _ _ h⟩)
  · exact .inr h
end L2
namespace L2
open PySem PySem.Spec PyProof.Rows
theorem closure_mk {env : Env} {scope : Scope} (h : ∀ n, (n, NameKind.free) ∈ scope.names → ∃ c, env.cells.lookup n = some c) :
    ∃ cl, closureFor scope env = pure cl ∧ (∀ n c, cl.lookup n = some c → env.cells.lookup n = some c) ∧ ∀ n, (n, NameKind.free) ∈ scope.names → ∃ c, cl.lookup n = some c := by
  have go : ∀ (names : List (Str × NameKind)) (acc : List (Str × Addr)), (∀ n, (n, NameKind.free) ∈ names → ∃ c, env.cells.lookup n = some c) → (∀ n c, acc.lookup n = some c → env.cells.lookup n = some c) →
      ∃ cl, (forIn names acc fun (x : Str × NameKind) (r : List (Str × Addr)) => if (x.2 == NameKind.free) = true then do let a ← cellOf env x.1; pure (ForInStep.yield ((x.1, a) :: r)) else pure (ForInStep.yield r) : Sem (List (Str × Addr))) = pure cl ∧
        (∀ n c, cl.lookup n = some c → env.cells.lookup n = some c) ∧ (∀ n, (n, NameKind.free) ∈ names → ∃ c, cl.lookup n = some c) ∧ ∀ n c, acc.lookup n = some c → ∃ c, cl.lookup n = some c := by
    intro names
    induction names with
    | nil => intro acc _ h2; exact ⟨acc, rfl, h2, (fun _ z => nomatch z), fun n c e => ⟨c, e⟩⟩
    | cons x r ih =>
      intro acc h1 h2
      obtain ⟨n, k⟩ := x
      by_cases hk : k = NameKind.free
      · subst hk
        obtain ⟨c, hc⟩ := h1 n List.mem_cons_self
        obtain ⟨cl, e1, e2, e3, e4⟩ := ih ((n, c) :: acc) (fun m z => h1 m (List.mem_cons_of_mem _ z)) (fun m d e => by
          rw [List.lookup_cons] at e
          cases q : m == n with
          | true => rw [q] at e; cases e; rw [eq_of_beq q]; exact hc
          | false => rw [q] at e; exact h2 m d e)
        refine ⟨cl, ?_, e2, fun m z => ?_, fun m d e => ?_⟩
        · rw [List.forIn_cons]
          have : cellOf env n = pure c := by unfold cellOf; rw [hc]
          simp only [this, beq_self_eq_true, if_true]
          exact e1
        · rcases List.mem_cons.mp z with z | z
          · cases z
            exact e4 n c (by rw [List.lookup_cons, beq_self_eq_true])
          · exact e3 m z
        · cases q : m == n with
          | true => exact e4 m c (by rw [List.lookup_cons, q])
          | false => exact e4 m d (by rw [List.lookup_cons, q]; exact e)
      · obtain ⟨cl, e1, e2, e3, e4⟩ := ih acc (fun m z => h1 m (List.mem_cons_of_mem _ z)) h2
        refine ⟨cl, ?_, e2, fun m z => ?_, e4⟩
        · rw [List.forIn_cons]
          have : (k == NameKind.free) = false := by simpa using hk
          simp only [this, Bool.false_eq_true, if_false]
          exact e1
        · rcases List.mem_cons.mp z with z | z
          · cases z; exact absurd rfl hk
          · exact e3 m z
  obtain ⟨cl, e1, e2, e3, _⟩ := go scope.names [] h (fun _ _ e => nomatch e)
  refine ⟨cl, ?_, e2, e3⟩
  unfold closureFor
  show (forIn scope.names [] _ >>= fun r => pure r) = _
  rw [show (forIn scope.names [] fun (x : Str × NameKind) (r : List (Str × Addr)) => _ : Sem (List (Str × Addr))) = pure cl from e1]
  rfl
def reKind (env : Env) (x : Str × NameKind) : Str × NameKind := if (x.2 == .free && env.scope.kind == .function && env.kindOf x.1 == some .cell) then (x.1, .cell) else (x.1, x.2)
theorem reKind_fst (env : Env) (x : Str × NameKind) : (reKind env x).1 = x.1 := by
  unfold reKind; split <;> rfl
theorem re_free {env : Env} {y : Str} : ∀ {names : List (Str × NameKind)}, (∀ z ∈ names, z.2 ≠ .cell) → ((names.map (reKind env)).lookup y = some .cell ∨ (names.map (reKind env)).lookup y = some .free) → (y, NameKind.free) ∈ names
  | [], _, h => by rcases h with h | h <;> cases h
  | (n, k) :: r, hc, h => by
    rw [List.map_cons] at h
    have e1 : (reKind env (n, k)).1 = n := reKind_fst env (n, k)
    cases hx : y == n with
    | true =>
      have ey := eq_of_beq hx
      subst ey
      have hk : k ≠ .cell := hc (y, k) List.mem_cons_self
      have q : (reKind env (y, k)).2 = .cell ∨ (reKind env (y, k)).2 = .free := by
        have l : ∀ kk, List.lookup y (reKind env (y, k) :: List.map (reKind env) r) = some kk → (reKind env (y, k)).2 = kk := fun kk z => by
          rw [show reKind env (y, k) = (y, (reKind env (y, k)).2) from Prod.ext e1 rfl, List.lookup_cons, beq_self_eq_true] at z
          exact Option.some.inj z
        rcases h with h | h
        · exact .inl (l _ h)
        · exact .inr (l _ h)
      have hk2 : k = .free := by
        unfold reKind at q
        split at q
        · rename_i z
          rw [Bool.and_eq_true, Bool.and_eq_true] at z
          simpa using z.1.1
        · rcases q with q | q
          · exact absurd q hk
          · exact q
      rw [hk2]
      exact List.mem_cons_self
    | false =>
      have l : List.lookup y (reKind env (n, k) :: List.map (reKind env) r) = List.lookup y (List.map (reKind env) r) := by
        rw [show reKind env (n, k) = (n, (reKind env (n, k)).2) from Prod.ext e1 rfl, List.lookup_cons, hx]
      rw [l] at h
      exact List.mem_cons_of_mem _ (re_free (fun z hz => hc z (List.mem_cons_of_mem _ hz)) h)
theorem re_vis {env : Env} {y : Str} : ∀ {names : List (Str × NameKind)}, names.lookup y = some .free → (names.map (reKind env)).lookup y = some .cell ∨ (names.map (reKind env)).lookup y = some .free
  | [], h => by cases h
  | (n, k) :: r, h => by
    rw [List.map_cons]
    have e1 : (reKind env (n, k)).1 = n := reKind_fst env (n, k)
    rw [show reKind env (n, k) = (n, (reKind env (n, k)).2) from Prod.ext e1 rfl, List.lookup_cons]
    rw [List.lookup_cons] at h
    cases hx : y == n with
    | true =>
      rw [hx] at h
      have hk : k = .free := Option.some.inj h
      subst hk
      show some (reKind env (n, NameKind.free)).2 = some NameKind.cell ∨ some (reKind env (n, NameKind.free)).2 = some NameKind.free
      unfold reKind
      split
      · exact .inl rfl
      · exact .inr rfl
    | false =>
      rw [hx] at h
      exact re_vis h
section
variable {prog : Program} {w : World} {A : Around} {R : Result → Shared → Prop}
theorem turns_of {elt tg iter : Expr} {ifs : List Expr} {scope : Scope} {pos : Pos} {it acc : Value} {env : Env} (W : Nat → Shared → Prop) {s : Shared}
    (turn : ∀ n s, W n s → wpAny (model prog w) A (pyNext it) (fun r s1 => match r with
      | none => R (.ok .next) s1
      | some v => wpAny (model prog w) A (letOwnedTupleGo tg it v) (fun _ s2 => wpAny (model prog w) A (assign tg env v) (fun _ s3 =>
          wpAny (model prog w) A (forIn ifs true fun c r => if r = true then do let ok ← isTrue c env (eval c env); pure (ForInStep.yield ok) else pure (ForInStep.yield r)) (fun ok s4 =>
            if ok = true then wpAny (model prog w) A (eval elt env) (fun x s5 => wpAny (model prog w) A (call (.builtin "list.append") [acc, x]) (fun _ s6 => ∃ m, m < n ∧ W m s6) (fun _ _ => False) s5) (fun _ _ => False) s4
            else ∃ m, m < n ∧ W m s4) (fun _ _ => False) s3) (fun _ _ => False) s2) (fun _ _ => False) s1) (fun _ _ => False) s)
    (n : Nat) (h : W n s) : codeAny (model prog w) A (.compLoop (.ListComp elt [⟨tg, iter, ifs, 0⟩] scope pos) 0 it acc env) R s := by
  have ex : ∀ {α : Type} {t : Sem α} {Q Q' : α → Shared → Prop} {E : Value → Shared → Prop} {s : Shared}, wpAny (model prog w) A t Q (fun _ _ => False) s → (∀ a s, Q a s → Q' a s) → wpAny (model prog w) A t Q' E s :=
    fun h f => wpAny_mono h f fun _ _ z => z.elim
  refine codeAny_loop rfl W (fun n s hI => ?_) n h
  show wpAny _ A ((compTurn (.ListComp elt [⟨tg, iter, ifs, 0⟩] scope pos) 0 it acc env).onRaise (fun x => do noteFrame x env; theTreesLotGoes x)) _ _ s
  refine wpAny_noted ?_
  rw [compTurn_list]
  refine wpAny_bind (wpAny_standAt (wpAny_bind (ex (turn n s hI) fun r s1 h1 => ?_)))
  cases r with
  | none => exact wpAny_pure h1
  | some v =>
    refine wpAny_bind (ex h1 fun _ s2 h2 => wpAny_bind (ex h2 fun _ s3 h3 => wpAny_bind (ex h3 fun ok s4 h4 => ?_)))
    cases ok with
    | false => exact wpAny_pure ⟨rfl, h4⟩
    | true => exact wpAny_bind (wpAny_bind (ex h4 fun x s5 h5 => wpAny_bind (ex h5 fun _ s6 h6 => wpAny_pure (wpAny_pure ⟨rfl, h6⟩))))
end
def cxComp (X : Cx) (scope : Scope) (cl : List (Str × Addr)) (C : Addr) (N : List Str) (fp : List Addr) (s : Shared) (H : Hp) : Cx where
  prog := X.prog
  w := X.w
  K := X.K
  mg := X.mg
  base := X.base
  A := X.A
  N := N
  s₀ := s
  H₀ := H
  env := compEnvC scope cl C X.env
  outer := X.stack
  stack := X.stack
  ex := fp
  fn := fun _ => false
  calm := X.calm
  pn := []
  xe := fun _ _ => False
def CapOk (X : Cx) (scope : Scope) : List Str → List Nat → Prop
  | [], [] => True
  | y :: cs, i :: js => (X.N[i]? = some y ∧ scope.names.lookup y = some .free ∧ (X.env.kindOf y = some .cell ∨ X.env.kindOf y = some .free)) ∧ CapOk X scope cs js
  | _, _ => False
theorem CapOk.len {X : Cx} {scope : Scope} : ∀ {cs : List Str} {js : List Nat}, CapOk X scope cs js → js.length = cs.length
  | [], [], _ => rfl
  | _ :: _, _ :: _, h => by rw [List.length_cons, List.length_cons, CapOk.len h.2]
  | [], _ :: _, h => h.elim
  | _ :: _, [], h => h.elim
theorem CapOk.get {X : Cx} {scope : Scope} {y : Str} : ∀ {cs : List Str} {js : List Nat} {j : Nat}, CapOk X scope cs js → cs[j]? = some y →
    ∃ i, js[j]? = some i ∧ X.N[i]? = some y ∧ scope.names.lookup y = some .free ∧ (X.env.kindOf y = some .cell ∨ X.env.kindOf y = some .free)
  | [], [], _, _, e => by simp at e
  | _ :: _, i :: _, 0, h, e => by simp at e; subst e; exact ⟨i, rfl, h.1.1, h.1.2⟩
  | _ :: _, _ :: _, j + 1, h, e => by
    obtain ⟨i, e1, r⟩ := CapOk.get (j := j) h.2 (by simpa using e)
    exact ⟨i, by simpa using e1, r⟩
  | [], _ :: _, _, h, _ => h.elim
  | _ :: _, [], _, h, _ => h.elim
def caps (js : List Nat) (σ : St) : St := js.map fun i => (σ[i]?).join
def PTs (X : Cx) (ifs : List Expr) (t : TT) : Prop :=
  ∀ (pins : List (Addr × Obj)) (s : Shared) (σ : St) (H : Hp) (Q : Bool → Hp → Prop), Inv X pins σ H s → t σ H Q →
    wpAny (model X.prog X.w) X.A (forIn ifs true fun c r => if r = true then do let ok ← isTrue c X.env (eval c X.env); pure (ForInStep.yield ok) else pure (ForInStep.yield r)) (TP X pins σ Q) X.xe s
def tAll : TT := fun _ H Q => Q true H
theorem pts_nil {X : Cx} : PTs X [] tAll := fun _ _ _ H _ I h => wpAny_pure ⟨H, I, h⟩
theorem pts_one {X : Cx} {c : Expr} {t : TT} (h : PT X c t) : PTs X [c] t := by
  intro pins s σ H Q I hq
  rw [List.forIn_cons]
  simp only [if_true]
  exact wpAny_bind (wpAny_bind (thn (h pins s σ H Q I hq) fun ok s1 q => wpAny_pure (wpAny_pure q)))
def CompGo (js : List Nat) (tt : TT) (te : TE) (σ : St) (Q : VK) (J : It) (H1 : Hp) : Prop :=
  ∃ W : Nat → Nat → List V → Hp → Prop, (∃ m, W 0 m [] H1) ∧ ∀ i m ys H, W i m ys H →
    (J.stop i H ∧ ys.length ≤ sizeLine ∧ ∀ p, H p = none → Q (.ref p) (upd H p (.lst ys))) ∨
    (J.go i H ∧ ∃ N : List V → Hp → Prop, (∀ ys' H', N ys' H' → ys'.length ≤ sizeLine ∧ ∃ m', m' < m ∧ W (i + 1) m' ys' H') ∧ ∀ x H', J.yld i H x H' → tt (some x :: caps js σ) H' fun b H2 =>
      if b = true then te (some x :: caps js σ) H2 fun y H3 => N (ys ++ [y]) H3 else N ys H2)
def tComp (js : List Nat) (wi : TI) (tt : TT) (te : TE) : TE := fun σ H Q => wi σ H fun J H1 => CompGo js tt te σ Q J H1
theorem HOk.track {P : Program} {w : World} {H : Hp} {h : Heap} {a : Addr} {o : HO} (x : HOk P w H h) (hn : H a = none) (new : ObjOk P w (upd H a o) h a o) : HOk P w (upd H a o) h := fun b u e => by
  by_cases hb : b = a
  · subst hb; rw [upd_same] at e; cases e; exact new
  · rw [upd_ne hb] at e
    exact (x b u e).stay (fun c v _ q => q) (fun c q => by rw [upd_ne (ne_of_none q hn)]; exact q) fun c xs q => by rw [upd_ne (ne_of_none q hn)]; exact q
theorem Un.track {fs ex : List Addr} {H H1 : Hp} {h h1 : Heap} {a : Addr} {o : HO} (u : Un fs ex H H1 h h1) (hn : h.get? a = none) (hH : H a = none) : Un fs ex H (upd H1 a o) h h1 where
  keep := u.keep
  slot := u.slot
  free := fun b ob e n hx => by rw [upd_ne (by rintro rfl; rw [hn] at e; cases e)]; exact u.free b ob e n hx
  there := u.there
  tups := fun b xs e => by rw [upd_ne (ne_of_none e hH)]; exact u.tups b xs e
  frzs := fun b ob xs e => by rw [upd_ne (ne_of_none e hH)]; exact u.frzs b ob xs e
  tbls := fun b ps e => by rw [upd_ne (ne_of_none e hH)]; exact u.tbls b ps e
section
variable {X : Cx} {x : Str} {px : Pos} {elt iter : Expr} {ifs : List Expr} {scope : Scope} {cs : List Str} {js : List Nat} {tt : TT} {te : TE} {pos : Pos}
theorem comp_block {cl : List (Str × Addr)} {pins : List (Addr × Obj)} {σ : St} {H2 : Hp} {s2 : Shared} {it : Addr} {fp : List Addr} {tn : Nat → Heap → Prop} {J : It} {Q : VK} {RR : Value → Addr → Result → Shared → Prop}
    (hc : X.calm = true) (hcap : CapOk X scope cs js) (ht : ∀ cl C fp s H, PTs (cxComp X scope cl C (x :: cs) fp s H) ifs tt) (he : ∀ cl C fp s H, PE (cxComp X scope cl C (x :: cs) fp s H) elt te)
    (hcell : ∀ y ∈ scope.names, y.2 ≠ .cell) (hkind : scope.kind = .function) (hx : scope.names.lookup x = some .local) (hnd : (x :: cs).Nodup)
    (hcl1 : ∀ n c, cl.lookup n = some c → X.env.cells.lookup n = some c) (hcl2 : ∀ n, (n, NameKind.free) ∈ scope.names → ∃ c, cl.lookup n = some c)
    (I2 : Inv X pins σ H2 s2) (T : Turn X.prog X.w X.K (.Name x px) J fp it tn) (st2 : tn 0 s2.heap) (f2 : ∀ b ∈ fp, FpOk X pins H2 b)
    (W : Nat → Nat → List V → Hp → Prop) (w0 : ∃ m, W 0 m [] H2)
    (step : ∀ i m ys H, W i m ys H →
      (J.stop i H ∧ ys.length ≤ sizeLine ∧ ∀ p, H p = none → Q (.ref p) (upd H p (.lst ys))) ∨
      (J.go i H ∧ ∃ N : List V → Hp → Prop, (∀ ys' H', N ys' H' → ys'.length ≤ sizeLine ∧ ∃ m', m' < m ∧ W (i + 1) m' ys' H') ∧ ∀ x H', J.yld i H x H' → tt (some x :: caps js σ) H' fun b H2 =>
        if b = true then te (some x :: caps js σ) H2 fun y H3 => N (ys ++ [y]) H3 else N ys H2))
    (fin : ∀ (D C : Addr) (H3 : Hp) (s4 : Shared) (m' : Str → Option Value), Inv X pins σ H3 s4 → s4.heap.Ns C m' → s2.heap.objs.size ≤ C → H3 C = none → Q (.ref D) H3 → RR (.ref D) C (.ok .next) s4) :
    wpAny (model X.prog X.w) X.A (newList []) (fun acc s3 => wpAny (model X.prog X.w) X.A (newFunctionEnv scope X.env.globals cl [] X.env.qual none .none (some X.env)) (fun cenv s4 =>
      codeAny (model X.prog X.w) X.A (.compStart (.ListComp elt [⟨.Name x px, iter, ifs, 0⟩] scope pos) 0 (.ref it) acc { cenv with scope := relabel scope X.env }) (RR acc cenv.locals) s4) X.xe s3) X.xe s2 := by
  refine wpAny_newObj_type (wpAny_newFunctionEnv hcell (by intro y hy; simp at hy) (fun h1 hns hsb => ?_) hkind)
  dsimp only at hns hsb ⊢
  generalize hP : s2.heap.push { cls := .type "list", dict := none, data := .seq ([] : List Value).toArray } = hq at hns hsb ⊢
  have eC : hq.objs.size = s2.heap.objs.size + 1 := by rw [← hP, Heap.size_push]
  generalize eD : s2.heap.objs.size = D at eC ⊢
  generalize eCC : hq.objs.size = C at hns hsb eC ⊢
  have DC : D ≠ C := by omega
  have old : ∀ b o, s2.heap.get? b = some o → h1.get? b = some o := fun b o e => by
    have lt : @LT.lt Nat _ b s2.heap.objs.size := Heap.lt_size e
    exact hsb.extBut b o (fun z => by subst z; omega) (Heap.get?_push_of_some _ (hP ▸ Heap.get?_push_of_some _ e))
  have accD : h1.get? D = some { cls := .type "list", dict := none, data := .seq ([] : List Value).toArray } := hsb.extBut _ _ DC (Heap.get?_push_of_some _ (hP ▸ eD ▸ Heap.get?_push_size _ rfl))
  have noD : s2.heap.get? D = none := Heap.get?_none_of_le (by omega)
  have HD : H2 D = none := I2.hok.fresh (by omega)
  have HC : H2 C = none := I2.hok.fresh (by omega)
  have fpLt : ∀ b ∈ fp, @LT.lt Nat _ b D := fun b hb => by
    obtain ⟨o, e, _⟩ := T.obj _ _ st2 b hb
    have q : @LT.lt Nat _ b s2.heap.objs.size := Heap.lt_size e
    omega
  have Dfp : D ∉ fp := fun z => Nat.lt_irrefl _ (fpLt D z)
  have fsLt : ∀ b ∈ frs X.stack, @LT.lt Nat _ b D := fun b hb => by
    obtain ⟨_, o, ho, _⟩ := I2.stack.mem hb
    have q : @LT.lt Nat _ b s2.heap.objs.size := Heap.lt_size ho
    omega
  have clLt : ∀ y c, cl.lookup y = some c → @LT.lt Nat _ c D := fun y c e => by
    obtain ⟨v, z⟩ := I2.cell y c (hcl1 y c e)
    have q : @LT.lt Nat _ c s2.heap.objs.size := z.lt
    omega
  have ok : (cxComp X scope cl C (x :: cs) fp s2 H2).Ok := by
    refine ⟨I2.ok.mod, hkind, I2.ok.glob, I2.ok.blt, (by show s2.heap.objs.size ≤ C; omega), fun y z c e1 e2 => I2.ok.inj y z c (hcl1 y c e1) (hcl1 z c e2), fun y hy => hcl2 y (re_free hcell hy), fun y c e => (by cases e), I2.ok.hd, I2.ok.frames, .inl rfl,
      fun b hb => ⟨?_, fun y c e => (f2 b hb).2.2.2.2.1 y c (hcl1 y c e)⟩, I2.bs, Nat.le_trans I2.ok.bsz I2.sz, fun b o e hb => ?_, fun b hb z => ?_, I2.stack, I2.stkFree⟩
    · have q := fpLt b hb
      show b ≠ C
      intro z
      subst z
      omega
    · rcases (f2 b hb).2.2.2.1 with z | z
      · exact I2.ok.noex b o e z
      · have l : @LT.lt Nat _ b X.base.objs.size := Heap.lt_size e
        have l2 := I2.ok.bsz
        have l3 : @LE.le Nat _ X.s₀.heap.objs.size b := z
        omega
    · rcases List.mem_cons.mp (I2.stkSub b z) with e | e
      · exact (f2 b hb).2.1 e
      · exact (f2 b hb).2.2.1 e
  have I0 : Inv (cxComp X scope cl C (x :: cs) fp s2 H2) [(D, { cls := .type "list", dict := none, data := .seq ([] : List Value).toArray })] (none :: caps js σ) H2 { s2 with heap := h1, toks := s2.toks + ([] : List (Str × Value)).length } := by
    refine ⟨ok, rfl, I2.bare, Un.kept old, ⟨_, hns, fun i y v e1 e2 e3 => ?_⟩, fun y c e => ?_, HC, fun y c e => I2.freeC y c (hcl1 y c e), fun p hp => ?_, I2.hok.kept old, ?_⟩
    · cases i with
      | zero => simp at e2
      | succ j =>
        have e1' : cs[j]? = some y := by simpa [cxComp] using e1
        obtain ⟨i0, q1, q2, q3, q4⟩ := hcap.get e1'
        have e2' : σ[i0]? = some (some v) := by
          have z : (caps js σ)[j]? = some (some v) := by simpa using e2
          unfold caps at z
          rw [List.getElem?_map, q1] at z
          have z' : (σ[i0]?).join = some v := by simpa using z
          cases r : σ[i0]? with
          | none => rw [r] at z'; cases z'
          | some r' => rw [r] at z'; exact congrArg some z'
        obtain ⟨m, _, hl⟩ := I2.loc
        obtain ⟨u, r, l⟩ := hl i0 y v q2 e2' (by rcases q4 with q | q; exact .inr (.inl q); exact .inr (.inr q))
        obtain ⟨c, hcy⟩ := hcl2 y (PySem.mem_of_lookup q3)
        refine ⟨u, r, .inr ⟨re_vis q3, c, hcy, ?_⟩⟩
        rcases l with ⟨k, _⟩ | ⟨_, c', ec, o, ho, hd⟩
        · rcases q4 with q | q <;> rw [q] at k <;> cases k
        · rw [hcl1 y c hcy] at ec
          cases ec
          exact ⟨o, old _ _ ho, hd⟩
    · obtain ⟨v, o, ho, hd⟩ := I2.cell y c (hcl1 y c e)
      exact ⟨v, o, old _ _ ho, hd⟩
    · have ep : p = (D, { cls := .type "list", dict := none, data := .seq ([] : List Value).toArray }) := by simpa [cxComp] using hp
      subst ep
      exact ⟨accD, HD, (by show D ≠ C; omega), (fun z => Nat.lt_irrefl _ (fsLt D z)), fun v z => by cases z⟩
    · show (none :: caps js σ).length = (x :: cs).length
      unfold caps
      rw [List.length_cons, List.length_cons, List.length_map, hcap.len]
  have stat : ∀ {pn : List (Addr × Obj)} {H' : Hp}, (∀ b ∈ fp, H' b = none) → (∀ p ∈ pn, p.1 ∉ fp) → ∀ b ∈ fp, FpOk (cxComp X scope cl C (x :: cs) fp s2 H2) pn H' b := fun hn hpn b hb =>
    ⟨hn b hb, (ok.exf b hb).1, ok.exfs b hb, .inl hb, fun y c e => (ok.exf b hb).2 y c e, fun p hp z => hpn p (by simpa [cxComp] using hp) (z ▸ hb)⟩
  have loop : ∀ s3 : Shared, s3 = { s2 with heap := h1, toks := s2.toks + ([] : List (Str × Value)).length } →
      codeAny (model X.prog X.w) X.A (.compLoop (.ListComp elt [⟨.Name x px, iter, ifs, 0⟩] scope pos) 0 (.ref it) (.ref D) (compEnvC scope cl C X.env)) (RR (.ref D) C) s3 := by
    rintro s3 rfl
    obtain ⟨m0, w0⟩ := w0
    refine turns_of (fun n s => ∃ (i : Nat) (ys : List V) (its : List Value) (c : Nat) (H : Hp), Inv (cxComp X scope cl C (x :: cs) fp s2 H2) [(D, { cls := .type "list", data := .seq its.toArray c })] (none :: caps js σ) H s ∧
      tn i s.heap ∧ (∀ b ∈ fp, H b = none) ∧ Vals ys its ∧ W i n ys H) ?_ m0 ⟨0, [], [], 0, H2, I0, T.keep _ _ _ st2 fun b _ o e => old b o e, fun b hb => (f2 b hb).1, .nil, w0⟩
    rintro n s3 ⟨i, ys, its, c, H3, I3, st3, fr3, rv, w3⟩
    have pD : ∀ p ∈ [((D, { cls := .type "list", data := .seq its.toArray c }) : Addr × Obj)], p.1 ∉ fp := fun p hp => by
      have : p = (D, { cls := .type "list", data := .seq its.toArray c }) := by simpa using hp
      subst this
      exact Dfp
    rcases step i n ys H3 w3 with ⟨stop, hlen, qn⟩ | ⟨go, N, hN, step⟩
    · refine thn (T.done (cxComp X scope cl C (x :: cs) fp s2 H2) rfl rfl rfl hc i _ s3 _ H3 (fun _ _ => False) I3 (stat fr3 pD) st3 stop) fun r s4 ⟨hr, I4⟩ => ?_
      subst hr
      obtain ⟨gD, nD, _⟩ := I4.pin _ (List.mem_append_right _ List.mem_cons_self)
      obtain ⟨m', hn', _⟩ := id I4.loc
      have u4 : Un (frs X.stack) fp H2 H3 s2.heap s4.heap := I4.base
      have k4 : HOk X.prog X.w (upd H3 D (.lst ys)) s4.heap := HOk.track I4.hok nD ⟨hlen, its, c, rv, gD⟩
      have I5 : Inv X pins σ (upd H3 D (.lst ys)) s4 := I2.call' (ch := fp) I4.os (u4.track noD HD) k4 I4.bare fun b hb => ⟨(f2 b hb).2.2.2.1, (f2 b hb).2.1, (f2 b hb).2.2.2.2.1, (f2 b hb).2.2.2.2.2⟩
      exact fin D C _ s4 m' I5 hn' (by omega) (by rw [upd_ne (Ne.symm DC)]; exact I4.free) (qn D nD)
    · refine thn (T.item (cxComp X scope cl C (x :: cs) fp s2 H2) rfl rfl rfl hc i _ s3 _ H3 (fun _ _ => False) I3 (stat fr3 pD) st3 go) fun r s4 ⟨u, hr, h4⟩ => ?_
      subst hr
      refine thn h4 fun _ s5 ⟨v, H5, I5, r5, y5, st5, fr5⟩ => ?_
      have I5' := I5.pinned (stat fr5 pD) (T.obj _ _ st5)
      have hxl : (compEnvC scope cl C X.env).scope.names.lookup x = some .local := lookup_relabel_local hx
      refine wpAny_assign_Name (store_ok (X := cxComp X scope cl C (x :: cs) fp s2 H2) (i := 0) I5' hnd rfl (.inl hxl) r5 (fun s6 I6 => ?_) (.inr hxl))
      have weak : ∀ {pn : List (Addr × Obj)} {H' : Hp} {s' : Shared}, Inv (cxComp X scope cl C (x :: cs) fp s2 H2) pn (some v :: caps js σ) H' s' → Inv (cxComp X scope cl C (x :: cs) fp s2 H2) pn (none :: caps js σ) H' s' := fun I' =>
        I'.weak rfl fun j z e => by
          cases j with
          | zero => simp at e
          | succ j => simpa using e
      have tnK : ∀ {σ' : St} {H' : Hp} {s' : Shared}, Inv (cxComp X scope cl C (x :: cs) fp s2 H2) ([(D, { cls := .type "list", data := .seq its.toArray c })] ++ pinsAt fp s5.heap) σ' H' s' → (∀ b ∈ fp, ∀ o, s5.heap.get? b = some o → s'.heap.get? b = some o) ∧ ∀ b ∈ fp, H' b = none := fun I' =>
        ⟨fun b hb o e => (I'.pin (b, o) (List.mem_append_right _ (List.mem_append_right _ (mem_pinsAt hb e)))).1, fun b hb => by
          obtain ⟨o, e, _⟩ := T.obj _ _ st5 b hb
          exact (I'.pin (b, o) (List.mem_append_right _ (List.mem_append_right _ (mem_pinsAt hb e)))).2.1⟩
      refine thn (ht cl C fp s2 H2 _ s6 (some v :: caps js σ) H5 _ I6 (step v H5 y5)) fun b s7 ⟨H7, I7, q7⟩ => ?_
      cases b with
      | false =>
        rw [if_neg Bool.false_ne_true] at q7 ⊢
        obtain ⟨_, m', hm, w7⟩ := hN _ _ q7
        exact ⟨m', hm, i + 1, ys, its, c, H7, weak I7.unpinned, T.keep _ _ _ st5 (tnK I7).1, (tnK I7).2, rv, w7⟩
      | true =>
        rw [if_pos rfl] at q7 ⊢
        refine thn (he cl C fp s2 H2 _ s7 (some v :: caps js σ) H7 _ I7 q7) fun yv s8 ⟨y, H8, I8, r8, q8⟩ => ?_
        obtain ⟨hl8, m', hm, w8⟩ := hN _ _ q8
        rw [List.length_append, List.length_singleton] at hl8
        obtain ⟨gD, nD, dC, dF, _⟩ := I8.pin (D, { cls := .type "list", data := .seq its.toArray c }) (List.mem_append_right _ (List.mem_append_left _ List.mem_cons_self))
        have el := rv.length
        refine wpAny_list_append_plain (hsz := by rw [List.size_toArray]; omega) ⟨c, gD⟩ fun h9 p9 sb9 => ?_
        obtain ⟨c9, g9⟩ := p9
        have g9' : h9.get? D = some { cls := .type "list", data := .seq (its ++ [yv]).toArray c9 } := by simpa using g9
        have I9 : Inv (cxComp X scope cl C (x :: cs) fp s2 H2) [] (none :: caps js σ) H8 { s8 with heap := h9 } :=
          (weak (I8.pins_of (pins' := []) (fun p hp => nomatch hp))).turned (t' := s8.toks) (it := D) (fun b o hb e => (sb9.2 b hb).trans e) nD dC (.inr (by show s2.heap.objs.size ≤ D; omega)) (fun y c e z => by have q := clLt y c e; subst z; omega) (fun p hp => nomatch hp)
        refine ⟨m', hm, i + 1, ys ++ [y], its ++ [yv], c9, H8, I9.pins_of fun p hp => ?_, ?_, (tnK I8).2, rv.append (.cons r8 .nil), w8⟩
        · have : p = (D, { cls := .type "list", data := .seq (its ++ [yv]).toArray c9 }) := by simpa using hp
          subst this
          exact ⟨g9', nD, dC, dF, fun v z => by cases z⟩
        · exact T.keep _ _ _ st5 fun b hb o e => (sb9.2 b (fun z => Dfp (z ▸ hb))).trans ((tnK I8).1 b hb o e)
  exact codeAny_compStart_list (loop _ rfl) (T.self _ 0 _ _ _ (T.keep _ _ _ st2 fun b _ o e => old b o e) (loop _ rfl))
theorem Inv.letGo {pins : List (Addr × Obj)} {σ : St} {H : Hp} {s : Shared} {C : Addr} {h' : Heap} {s2 : Shared} {H2 : Hp} {σ2 : St} (I2 : Inv X pins σ2 H2 s2) (I : Inv X pins σ H s) (hC : s2.heap.objs.size ≤ C) (hn : H C = none) (sb : Heap.SameBut C s.heap h') : Inv X pins σ H { s with heap := h' } :=
  I.turned (t' := s.toks) (fun b o hb e => (sb.2 b hb).trans e) hn (Nat.ne_of_gt (Nat.lt_of_lt_of_le I2.lt hC)) (.inr (Nat.le_trans I2.sz hC))
    (fun y c e z => by obtain ⟨v, q⟩ := I2.cell y c e; exact absurd (Nat.lt_of_lt_of_le q.lt (by rw [z]; exact hC)) (Nat.lt_irrefl _))
    (fun p hp z => absurd (Nat.lt_of_lt_of_le (Heap.lt_size (I2.pin p hp).1) (by rw [z]; exact hC)) (Nat.lt_irrefl _))
theorem pe_comp {wi : TI} (hc : X.calm = true) (cs : List Str) (js : List Nat) (hi : PI X (.Name x px) iter wi) (hcap : CapOk X scope cs js) (ht : ∀ cl C fp s H, PTs (cxComp X scope cl C (x :: cs) fp s H) ifs tt) (he : ∀ cl C fp s H, PE (cxComp X scope cl C (x :: cs) fp s H) elt te)
    (hall : ∀ y ∈ scope.names, y.2 = .free → y.1 ∈ cs) (hcell : ∀ y ∈ scope.names, y.2 ≠ .cell) (hnames : ∀ y ∈ scope.names, y.2 = .local → scope.names.lookup y.1 = some .local) (hnd : (x :: cs).Nodup)
    (hkind : scope.kind = .function := by rfl) (hx : scope.names.lookup x = some .local := by rfl) (hs : ∀ v, foldedSetIterable iter X.env v = pure v := by intro _; rfl) :
    PE X (.ListComp elt [⟨.Name x px, iter, ifs, 0⟩] scope pos) (tComp js wi tt te) := by
  intro pins s σ H Q I h
  obtain ⟨cl, hcl0, hcl1, hcl2⟩ := closure_mk (env := X.env) (scope := scope) fun n hn => by
    obtain ⟨j, hj⟩ := List.getElem?_of_mem (hall _ hn rfl)
    obtain ⟨_, _, _, _, k⟩ := hcap.get hj
    exact I.ok.has n k
  rw [eval_ListComp]
  refine wpAny_comprehension_free (use := none) rfl hs hcl0 hkind hnames (thn (hi pins s σ H _ I h) fun v s1 h1 => thn h1 fun itv s2 h2 => ?_)
  obtain ⟨it, fp, tn, J, H2, e, I2, T, st2, f2, W, w0, step⟩ := h2
  subst e
  refine comp_block (Q := Q) (RR := fun acc C => compPost (model X.prog X.w) X.A X.xe none (EP X pins σ Q) acc C) hc hcap ht he hcell hkind hx hnd hcl1 hcl2 I2 T st2 f2 W w0 step fun D C H3 s4 m' I4 hn hC hH q => ?_
  exact ⟨m', hn, fun h' sb => ⟨.ref D, H3, I2.letGo I4 hC hH sb, rfl, q⟩⟩
theorem ps_comp {wi : TI} {y : Str} {py spos : Pos} {k : Nat} (hc : X.calm = true) (cs : List Str) (js : List Nat) (hN : X.N.Nodup) (hk : X.N[k]? = some y) (hy : X.env.scope.names.lookup y = some .local) (hi : PI X (.Name x px) iter wi) (hcap : CapOk X scope cs js)
    (ht : ∀ cl C fp s H, PTs (cxComp X scope cl C (x :: cs) fp s H) ifs tt) (he : ∀ cl C fp s H, PE (cxComp X scope cl C (x :: cs) fp s H) elt te)
    (hall : ∀ y ∈ scope.names, y.2 = .free → y.1 ∈ cs) (hcell : ∀ y ∈ scope.names, y.2 ≠ .cell) (hnames : ∀ y ∈ scope.names, y.2 = .local → scope.names.lookup y.1 = some .local) (hnd : (x :: cs).Nodup)
    (hsw : swapsWith (.ListComp elt [⟨.Name x px, iter, ifs, 0⟩] scope pos) (some (.Name y py)) spos.line X.env = pure true := by rfl)
    (hkind : scope.kind = .function := by rfl) (hx : scope.names.lookup x = some .local := by rfl) (hs : ∀ v, foldedSetIterable iter X.env v = pure v := by intro _; rfl) :
    PS X (.Assign [.Name y py] (.ListComp elt [⟨.Name x px, iter, ifs, 0⟩] scope pos) spos) (tAsg (tComp js wi tt te) (gName k)) := by
  intro pins s σ H D I h
  obtain ⟨cl, hcl0, hcl1, hcl2⟩ := closure_mk (env := X.env) (scope := scope) fun n hn => by
    obtain ⟨j, hj⟩ := List.getElem?_of_mem (hall _ hn rfl)
    obtain ⟨_, _, _, _, k⟩ := hcap.get hj
    exact I.ok.has n k
  rw [exec_Assign_Name_used _ _ _ _ hsw]
  refine wpAny_bind (wpAny_standAt (wpAny_bind ?_))
  show wpAny _ X.A (do let _ ← comprehension (.ListComp elt [⟨.Name x px, iter, ifs, 0⟩] scope pos) scope X.env _ (newList []) false (eval iter X.env) (some (assign (.Name y py) X.env))) _ _ s
  refine wpAny_bind (thn (wpAny_comprehension_free (use := some (assign (.Name y py) X.env)) (Q := fun _ s' => SP X pins D .next s') rfl hs hcl0 hkind hnames (thn (hi pins s σ H _ I h) fun v s1 h1 => thn h1 fun itv s2 h2 => ?_)) (fun _ s' q => wpAny_pure (wpAny_pure q)))
  obtain ⟨it, fp, tn, J, H2, e, I2, T, st2, f2, W, w0, step⟩ := h2
  subst e
  refine comp_block (Q := fun x H1 => gName k x σ H1 D.nx) (RR := fun acc C => compPost (model X.prog X.w) X.A X.xe (some (assign (.Name y py) X.env)) (fun _ s' => SP X pins D .next s') acc C) hc hcap ht he hcell hkind hx hnd hcl1 hcl2 I2 T st2 f2 W w0 step fun D' C H3 s4 m' I4 hn hC hH q => ?_
  show wpAny _ X.A (assign (.Name y py) X.env (.ref D')) _ _ _
  refine wpAny_assign_Name (store_ok2 (v := .ref D') I4 hN hk (.inl hy) rfl (fun s5 I5 ⟨a, sb, ha⟩ => ?_) (.inr hy))
  have neC : C ≠ a := by
    rcases ha with e | e
    · rw [e]; exact Nat.ne_of_gt (Nat.lt_of_lt_of_le I2.lt hC)
    · intro z
      obtain ⟨v, q⟩ := I2.cell y a e
      exact absurd (Nat.lt_of_lt_of_le q.lt (by rw [← z]; exact hC)) (Nat.lt_irrefl _)
  exact ⟨m', hn.sameBut sb neC, fun h' sb' => ⟨_, H3, I2.letGo I5 hC hH sb', q⟩⟩
end
end L2
namespace L2
open PySem PySem.Spec PyProof.Rows
def flatO : HO → Bool
  | .dT _ => false
  | .frz _ (.dT _) => false
  | .frz _ (.ins _ _ _) => false
  | .frz _ (.frz _ _) => false
  | _ => true
def Flat (H : Hp) : Prop := ∀ a o, H a = some o → flatO o = true
def OwnOk (H : Hp) : Prop := ∀ a C dx fs, H a = some (.ins C dx fs) → H dx = some (.own a)
structure Fgt (H H' H'' : Hp) : Prop where
  sub : ∀ a o, H'' a = some o → H' a = some o
  flat : Flat H''
  own : OwnOk H → OwnOk H''
  tup : ∀ b xs, H b = some (.tup xs) → H'' b = some (.tup xs)
  frz : ∀ b o u, H b = some (.frz o u) → H'' b = some (.frz o u)
  tbl : ∀ b ps, H b = some (.tbl ps) → ∃ more, H'' b = some (.tbl (ps ++ more))
theorem Fgt.self {H H' : Hp} (s : Same H H') (f : Flat H) : Fgt H H' H :=
  ⟨s, f, id, fun _ _ e => e, fun _ _ _ e => e, fun _ ps e => ⟨#[], by rw [e]; simp⟩⟩
theorem Same.upd {H : Hp} {p : Addr} {o : HO} (n : H p = none) : Same H (upd H p o) := fun b u e => by rw [upd_ne (ne_of_none e n)]; exact e
theorem Flat.upd {H : Hp} {p : Addr} {o : HO} (f : Flat H) (h : flatO o = true) : Flat (upd H p o) := fun a u e => by
  by_cases z : a = p
  · subst z; rw [upd_same] at e; cases e; exact h
  · rw [upd_ne z] at e; exact f a u e
theorem Fgt.one {H H' : Hp} {p : Addr} {o : HO} (s : Same H H') (f : Flat H) (n : H p = none) (e : H' p = some o) (fo : flatO o = true) (no : ∀ C dx fs, o ≠ .ins C dx fs) : Fgt H H' (upd H p o) where
  sub := fun a u q => by
    by_cases z : a = p
    · subst z; rw [upd_same] at q; cases q; exact e
    · rw [upd_ne z] at q; exact s a u q
  flat := f.upd fo
  own := fun h a C dx fs q => by
    by_cases z : a = p
    · subst z; rw [upd_same] at q; cases q; exact absurd rfl (no C dx fs)
    · rw [upd_ne z] at q
      have r := h a C dx fs q
      rw [upd_ne (ne_of_none r n)]
      exact r
  tup := fun b xs q => by rw [upd_ne (ne_of_none q n)]; exact q
  frz := fun b o u q => by rw [upd_ne (ne_of_none q n)]; exact q
  tbl := fun b ps q => ⟨#[], by rw [upd_ne (ne_of_none q n), q]; simp⟩
theorem ObjOk.less {P : Program} {w : World} {H H' : Hp} {h : Heap} {a : Addr} {o : HO} (x : ObjOk P w H' h a o) (f : flatO o = true) (hw : ∀ C dx fs, o = .ins C dx fs → H dx = some (.own a)) : ObjOk P w H h a o := by
  cases o with
  | dT kvs => exact absurd f Bool.false_ne_true
  | ins C dx fs => exact ⟨hw C dx fs rfl, x.2⟩
  | frz ob u =>
    cases u with
    | dT _ => exact absurd f Bool.false_ne_true
    | ins _ _ _ => exact absurd f Bool.false_ne_true
    | frz _ _ => exact absurd f Bool.false_ne_true
    | _ => exact x
  | _ => exact x
theorem HOk.less {P : Program} {w : World} {H H' : Hp} {h : Heap} (x : HOk P w H' h) (s : ∀ a o, H a = some o → H' a = some o) (f : Flat H) (hw : OwnOk H) : HOk P w H h := fun a o e =>
  (x a o (s a o e)).less (f a o e) fun C dx fs z => hw a C dx fs (by rw [← z]; exact e)
theorem HOk.own {P : Program} {w : World} {H : Hp} {h : Heap} (x : HOk P w H h) : OwnOk H := fun a _ _ _ e => (x a _ e).1
def gcK (H : Hp) (Q : VK) : VK := fun v H' => Q v H' ∨ ∃ H'', Fgt H H' H'' ∧ Q v H''
theorem FnOk.gc {P : Program} {w : World} {K : PySem.W.Frag} {mg : Str → Option Value} {base : Heap} {CX : CXT} {k : Nat} {f : Addr} {fd : FuncData} {ps : List Str} {sp sp' : Sp} (F : FnOk P w K mg base CX k f fd ps sp)
    (h : ∀ vs H Q E, sp' vs H Q E → sp vs H (gcK H Q) E) : FnOk P w K mg base CX k f fd ps sp' := by
  refine ⟨fun vs H Q E q => F.len vs H _ E (h _ _ _ _ q), fun A outer s H args us vs Q E hr he hb hv hs => codeAny_mono (F.run A outer s H args us vs (gcK H Q) E hr he hb hv (h _ _ _ _ hs)) fun r s' hq => ?_⟩
  cases r with
  | error e => exact hq
  | ok fl =>
    cases fl with
    | ret u =>
      obtain ⟨v, H', os, bare, un, hok, rv, q⟩ := hq
      rcases q with q | ⟨H'', g, q⟩
      · exact ⟨v, H', os, bare, un, hok, rv, q⟩
      refine ⟨v, H'', os, bare, ⟨un.keep, un.slot, fun b o e n hx => ?_, un.there, g.tup, g.frz, g.tbl⟩, hok.less g.sub g.flat (g.own he.hok.own), rv, q⟩
      cases z : H'' b with
      | none => rfl
      | some o' =>
        have z' := g.sub b o' z
        rw [un.free b o e n hx] at z'
        cases z'
    | next => exact hq
    | brk => exact hq
    | cont => exact hq
structure FunD (K : PySem.W.Frag) (x qual : Str) (st : Stmt) (dV : Value) (f : Addr) (fd : FuncData) : Prop where
  ex : ∃ (oc : Value) (od : Option Addr) (kV doc pm : Value) (an : Option Addr) (cdv ct : Value) (osl : Array (Option Value)),
    fd = PySem.W.fnOf x qual (defArgs st) (defBody st) (defScope st) dV kV doc pm an cdv ct ∧ K.lookup f = some ⟨oc, od, .func fd, osl⟩ ∧ PySem.W.codeIn K cdv qual = true
  kp : PySem.W.keepIn K (.ref f) = true
section
variable {P : Program} {w : World} {K : PySem.W.Frag} {mg : Str → Option Value} {base : Heap}
theorem FunD.ok {x qual : Str} {st : Stmt} {dV : Value} {f : Addr} {fd : FuncData} {N ps : List Str} {k : Nat} {sp : Sp} (F : FunD K x qual st dV f fd) (S : FnScope N ps (defScope st)) (len : ∀ vs H Q E, sp vs H Q E → vs.length = ps.length)
    (hbody : ∀ (cdv : Value) (A : Around) (outer : List Env) (s : Shared) (H : Hp) (vs : List V) (Q : VK) (E : XK), Room k (A.deeper (envOfC qual (defScope st) s.heap.objs.size f cdv)) → sp vs H Q E →
      ∃ t, PSs (cxOf CX0 P w K mg base N qual (defScope st) f cdv A outer s H E).nox (defBody st) t ∧ t { nx := fun _ H' => gcK H Q .non H', rt := gcK H Q } (start N vs) H) : FnOk P w K mg base CX0 (k + 1) f fd ps sp := by
  obtain ⟨oc, od, kV, doc, pm, an, cdv, ct, osl, rfl, lk, hcd⟩ := F.ex
  refine FnOk.gc (sp := fun vs H Q' E => ∃ Q, sp vs H Q E ∧ Q' = gcK H Q) (fn_of lk hcd S (fun vs H Q E ⟨Q0, q, _⟩ => len vs H Q0 E q) fun A outer s H vs Q' E hr hsp => ?_) fun vs H Q E q => ⟨Q, q, rfl⟩
  obtain ⟨Q, hsp, rfl⟩ := hsp
  obtain ⟨t, h, q⟩ := hbody cdv A outer s H vs Q E hr hsp
  exact ⟨t, h.nox, q⟩
theorem FunD.binds {x qual : Str} {st : Stmt} {dV : Value} {f : Addr} {fd : FuncData} {ps : List Str} (F : FunD K x qual st dV f fd)
    (h : ∀ (kV doc pm : Value) (an : Option Addr) (cdv ct : Value) (us : List Value), us.length = ps.length → bindArgs (PySem.W.fnOf x qual (defArgs st) (defBody st) (defScope st) dV kV doc pm an cdv ct) ⟨us, []⟩ = pure (ps.zip us)) : Binds K fd ps [] := by
  obtain ⟨oc, od, kV, doc, pm, an, cdv, ct, osl, rfl, lk, hcd⟩ := F.ex
  exact .all (h kV doc pm an cdv ct)
theorem fund_mk {x qual : Str} {st : Stmt} {dV : Value} {f : Addr} {oc : Value} {od an : Option Addr} {osl : Array (Option Value)} {kV doc pm cdv ct : Value} (l : K.lookup f = some ⟨oc, od, .func (PySem.W.fnOf x qual (defArgs st) (defBody st) (defScope st) dV kV doc pm an cdv ct), osl⟩)
    (c : PySem.W.codeIn K cdv qual = true) (k : PySem.W.keepIn K (.ref f) = true) : FunD K x qual st dV f (PySem.W.fnOf x qual (defArgs st) (defBody st) (defScope st) dV kV doc pm an cdv ct) := ⟨⟨oc, od, kV, doc, pm, an, cdv, ct, osl, rfl, l, c⟩, k⟩
end
theorem bt_len : bootBuiltins "len" = some (.builtin "len") := by decide +kernel
theorem bt_tuple : bootBuiltins "tuple" = some (.type "tuple") := by decide +kernel
def tyOk : V → Value → Prop
  | .ty n, c => c = .type n
  | .ref a, c => c = .ref a
  | _, _ => False
@[irreducible] def rIsi (K : PySem.W.Frag) : List V → Hp → VK → Prop := fun xs H Q => ∃ x cv t c b, xs = [x, cv] ∧ tyOk cv c ∧ TyOf K H x t ∧ PySem.W.kitOne K t c = some b ∧ Q (.bl b) H
section
variable {X : Cx}
end
section
variable {X : Cx}
end
theorem Only.flat {H : Hp} (o : Only H) : Flat H := fun a u e => by
  rcases o a with z | ⟨ob, xs, z⟩
  · rw [z] at e; cases e
  · rw [z] at e; cases e; rfl
def cell (ns : List Int) (k : Nat) : Int := ns.getD k 0
def ForGo (g : TG) (tb : TS) (D : Ends) (σ : St) (J : It) (H1 : Hp) : Prop :=
  ∃ W : Nat → Nat → St → Hp → Prop, (∃ m, W 0 m σ H1) ∧ ∀ i m σ H, W i m σ H →
    (J.stop i H ∧ D.nx σ H) ∨ (J.go i H ∧ ∃ N : St → Hp → Prop, (∀ σ' H', N σ' H' → ∃ m', m' < m ∧ W (i + 1) m' σ' H') ∧ ∀ x H', J.yld i H x H' → g x σ H' fun σ2 H2 => tb { D with nx := N, ct := N, bk := D.nx } σ2 H2)
def tForN (wi : TI) (g : TG) (tb : TS) : TS := fun D σ H => wi σ H fun J H1 => ForGo g tb D σ J H1
theorem ps_forN {X : Cx} {tg iter : Expr} {body : List Stmt} {wi : TI} {g : TG} {tb : TS} {pos : Pos} (hp : PassesOwn (model X.prog X.w) X.A X.env X.xe) (hc : X.calm = true) (hi : PI X tg iter wi) (hg : PG X tg g) (hb : PSs X body tb)
    (hs : ∀ x, foldedSetIterable iter X.env x = pure x := by intro _; rfl) : PS X (.For tg iter body [] pos) (tForN wi g tb) := ps_for hp hc hi hg hb hs
end L2
namespace L2
open PySem PySem.Spec PyProof.Rows
inductive Dt where
  | non | bl (b : Bool) | int (i : Int) | str (x : Str) | tup (ds : List Dt) | lst (ds : List Dt)
mutual
inductive Is (K : PySem.W.Frag) (H : Hp) : V → Dt → Prop
  | non : Is K H .non .non
  | bl (b : Bool) : Is K H (.bl b) (.bl b)
  | int (i : Int) : Is K H (.int i) (.int i)
  | str (x : Str) : Is K H (.str x) (.str x)
  | tup {a : Addr} {xs : List V} {ds : List Dt} : SqT K H a xs → Iss K H xs ds → Is K H (.ref a) (.tup ds)
  | lst {a : Addr} {xs : List V} {ds : List Dt} : SqL K H a xs → Iss K H xs ds → Is K H (.ref a) (.lst ds)
inductive Iss (K : PySem.W.Frag) (H : Hp) : List V → List Dt → Prop
  | nil : Iss K H [] []
  | cons {x : V} {d : Dt} {xs : List V} {ds : List Dt} : Is K H x d → Iss K H xs ds → Iss K H (x :: xs) (d :: ds)
end
mutual
def deq : Dt → Dt → Bool
  | .non, .non => true
  | .bl a, .bl b => a == b
  | .bl a, .int b => (if a then 1 else 0) == b
  | .int a, .bl b => a == (if b then 1 else 0)
  | .int a, .int b => a == b
  | .str a, .str b => a == b
  | .tup ds, .tup es => deqs ds es
  | .lst ds, .lst es => deqs ds es
  | _, _ => false
def deqs : List Dt → List Dt → Bool
  | [], [] => true
  | d :: ds, e :: es => deq d e && deqs ds es
  | _, _ => false
end
mutual
def dep : Dt → Nat
  | .tup ds => deps ds + 1
  | .lst ds => deps ds + 1
  | _ => 0
def deps : List Dt → Nat
  | [] => 0
  | d :: ds => max (dep d) (deps ds)
end
mutual
theorem deq_refl : ∀ d : Dt, deq d d = true
  | .non => by unfold deq; rfl
  | .bl a => by unfold deq; simp
  | .int a => by unfold deq; simp
  | .str a => by unfold deq; simp
  | .tup ds => by unfold deq; exact deqs_refl ds
  | .lst ds => by unfold deq; exact deqs_refl ds
theorem deqs_refl : ∀ ds : List Dt, deqs ds ds = true
  | [] => by unfold deqs; rfl
  | d :: ds => by unfold deqs; rw [deq_refl d, deqs_refl ds]; rfl
end
theorem deqs_len : ∀ {ds es : List Dt}, ds.length ≠ es.length → deqs ds es = false
  | [], [], h => absurd rfl h
  | [], _ :: _, _ => by unfold deqs; rfl
  | _ :: _, [], _ => by unfold deqs; rfl
  | d :: ds, e :: es, h => by
    unfold deqs
    rw [deqs_len (ds := ds) (es := es) fun z => h (by rw [List.length_cons, List.length_cons, z]), Bool.and_false]
theorem deqs_all : ∀ {ds es : List Dt}, ds.length = es.length → (List.range ds.length).all (fun j => deq (ds.getD j .non) (es.getD j .non)) = deqs ds es
  | [], [], _ => by unfold deqs; rfl
  | [], _ :: _, h => by cases h
  | _ :: _, [], h => by cases h
  | d :: ds, e :: es, h => by
    have ih := deqs_all (ds := ds) (es := es) (Nat.succ.inj h)
    rw [List.length_cons, List.range_succ_eq_map, List.all_cons, List.all_map, deqs, ← ih]
    rfl
theorem Iss.length {K : PySem.W.Frag} {H : Hp} : ∀ {xs : List V} {ds : List Dt}, Iss K H xs ds → xs.length = ds.length
  | _, _, .nil => rfl
  | _, _, .cons _ r => by rw [List.length_cons, List.length_cons, Iss.length r]
theorem Iss.get {K : PySem.W.Frag} {H : Hp} : ∀ {xs : List V} {ds : List Dt} {i : Nat} {x : V}, Iss K H xs ds → xs[i]? = some x → ∃ d, ds[i]? = some d ∧ Is K H x d
  | _, _, _, _, .nil, e => by simp at e
  | _, _, 0, _, .cons r _, e => by simp at e; subst e; exact ⟨_, rfl, r⟩
  | _, _, i + 1, x, .cons _ t, e => by
    obtain ⟨d, h1, h2⟩ := Iss.get (i := i) (x := x) t (by simpa using e)
    exact ⟨d, by simpa using h1, h2⟩
theorem Iss.at {K : PySem.W.Frag} {H : Hp} : ∀ {xs : List V} {ds : List Dt} {i : Nat} {d : Dt}, Iss K H xs ds → ds[i]? = some d → ∃ x, xs[i]? = some x ∧ Is K H x d
  | _, _, _, _, .nil, e => by simp at e
  | _, _, 0, _, .cons r _, e => by simp at e; subst e; exact ⟨_, rfl, r⟩
  | _, _, i + 1, d, .cons _ t, e => by
    obtain ⟨x, h1, h2⟩ := Iss.at (i := i) (d := d) t (by simpa using e)
    exact ⟨x, by simpa using h1, h2⟩
theorem Iss.append {K : PySem.W.Frag} {H : Hp} : ∀ {xs ys : List V} {ds es : List Dt}, Iss K H xs ds → Iss K H ys es → Iss K H (xs ++ ys) (ds ++ es)
  | _, _, _, _, .nil, s => s
  | _, _, _, _, .cons r t, s => .cons r (Iss.append t s)
theorem Iss.take {K : PySem.W.Frag} {H : Hp} : ∀ {xs : List V} {ds : List Dt} (n : Nat), Iss K H xs ds → Iss K H (xs.take n) (ds.take n)
  | _, _, 0, _ => .nil
  | _, _, _ + 1, .nil => .nil
  | _, _, n + 1, .cons r t => .cons r (Iss.take n t)
theorem Iss.drop {K : PySem.W.Frag} {H : Hp} : ∀ {xs : List V} {ds : List Dt} (n : Nat), Iss K H xs ds → Iss K H (xs.drop n) (ds.drop n)
  | _, _, 0, r => r
  | _, _, _ + 1, .nil => .nil
  | _, _, n + 1, .cons _ t => Iss.drop n t
mutual
theorem Is.keep {K : PySem.W.Frag} {H H' : Hp} (s1 : ∀ a xs, SqT K H a xs → SqT K H' a xs) (s2 : ∀ a xs, SqL K H a xs → SqL K H' a xs) : ∀ {v : V} {d : Dt}, Is K H v d → Is K H' v d
  | _, _, .non => .non
  | _, _, .bl b => .bl b
  | _, _, .int i => .int i
  | _, _, .str x => .str x
  | _, _, .tup e r => .tup (s1 _ _ e) (Iss.keep s1 s2 r)
  | _, _, .lst e r => .lst (s2 _ _ e) (Iss.keep s1 s2 r)
theorem Iss.keep {K : PySem.W.Frag} {H H' : Hp} (s1 : ∀ a xs, SqT K H a xs → SqT K H' a xs) (s2 : ∀ a xs, SqL K H a xs → SqL K H' a xs) : ∀ {vs : List V} {ds : List Dt}, Iss K H vs ds → Iss K H' vs ds
  | _, _, .nil => .nil
  | _, _, .cons r t => .cons (Is.keep s1 s2 r) (Iss.keep s1 s2 t)
end
theorem deq_tup (ds es : List Dt) : deq (.tup ds) (.tup es) = deqs ds es := by unfold deq; rfl
theorem deq_lst (ds es : List Dt) : deq (.lst ds) (.lst es) = deqs ds es := by unfold deq; rfl
section
variable {X : Cx} {pins : List (Addr × Obj)} {σ : St} {H : Hp} {s : Shared}
theorem Inv.not_both (I : Inv X pins σ H s) {a : Addr} {xs ys : List V} (h : SqT X.K H a xs) (h' : SqL X.K H a ys) : False := by
  obtain ⟨its, _, pt, _⟩ := I.tuple h
  obtain ⟨jts, _, pl, _⟩ := I.list h'
  obtain ⟨o, e, c, _⟩ := pt
  obtain ⟨o', n', e', c', _⟩ := pl
  rw [e] at e'; cases e'
  rw [c] at c'
  injection c' with z
  exact absurd z (by decide)
mutual
theorem Inv.is_inj (I : Inv X pins σ H s) : ∀ {v : V} {d e : Dt}, Is X.K H v d → Is X.K H v e → d = e
  | _, _, _, .non, .non => rfl
  | _, _, _, .bl _, .bl _ => rfl
  | _, _, _, .int _, .int _ => rfl
  | _, _, _, .str _, .str _ => rfl
  | _, _, _, .tup q r, .tup q' r' => congrArg Dt.tup (Inv.iss_inj I r (I.tuple_inj q q' ▸ r'))
  | _, _, _, .lst q r, .lst q' r' => congrArg Dt.lst (Inv.iss_inj I r (I.list_inj q q' ▸ r'))
  | _, _, _, .tup q _, .lst q' _ => (I.not_both q q').elim
  | _, _, _, .lst q _, .tup q' _ => (I.not_both q' q).elim
theorem Inv.iss_inj (I : Inv X pins σ H s) : ∀ {vs : List V} {ds es : List Dt}, Iss X.K H vs ds → Iss X.K H vs es → ds = es
  | _, _, _, .nil, .nil => rfl
  | _, _, _, .cons r t, .cons r' t' => by rw [Inv.is_inj I r r', Inv.iss_inj I t t']
end
theorem dep_le : ∀ {ds : List Dt} {j : Nat} {d : Dt}, ds[j]? = some d → dep d ≤ deps ds
  | [], _, _, e => by simp at e
  | d' :: ds, 0, d, e => by simp at e; subst e; unfold deps; exact Nat.le_max_left _ _
  | d' :: ds, j + 1, d, e => by
    have := dep_le (ds := ds) (j := j) (d := d) (by simpa using e)
    unfold deps
    exact Nat.le_trans this (Nat.le_max_right _ _)
theorem items_eq {A : Around} {xs ys : List V} {its jts : List Value} {ds es : List Dt} (r1 : Vals xs its) (r2 : Vals ys jts) (q1 : Iss X.K H xs ds) (q2 : Iss X.K H ys es)
    (ih : ∀ (j : Nat) (x y : V) (d e : Dt) (u v : Value), ds[j]? = some d → es[j]? = some e → Is X.K H x d → Is X.K H y e → RelV x u → RelV y v → SeqAt.EqAt A s u v (deq d e)) :
    ∀ j (h1 : j < its.toArray.size) (h2 : j < jts.toArray.size), SeqAt.EqAt A s its.toArray[j] jts.toArray[j] (deq (ds.getD j .non) (es.getD j .non)) := fun j h1 h2 => by
  have l1 := r1.length
  have l2 := r2.length
  have j1 : j < xs.length := by simp at h1; omega
  have j2 : j < ys.length := by simp at h2; omega
  obtain ⟨w1, g1, p1⟩ := r1.get (i := j) (x := xs[j]) (by simp [j1])
  obtain ⟨w2, g2, p2⟩ := r2.get (i := j) (x := ys[j]) (by simp [j2])
  obtain ⟨d, e1, i1⟩ := q1.get (i := j) (x := xs[j]) (by simp [j1])
  obtain ⟨e, e2, i2⟩ := q2.get (i := j) (x := ys[j]) (by simp [j2])
  have d1 : ds.getD j .non = d := by simp [List.getD, e1]
  have d2 : es.getD j .non = e := by simp [List.getD, e2]
  have c1 : its.toArray[j] = w1 := by
    have := List.getElem?_eq_some_iff.mp g1
    simpa using this.2
  have c2 : jts.toArray[j] = w2 := by
    have := List.getElem?_eq_some_iff.mp g2
    simpa using this.2
  rw [d1, d2, c1, c2]
  exact ih j _ _ d e _ _ e1 e2 i1 i2 p1 p2
theorem range_min {n m : Nat} (h : n = m) (p : Nat → Bool) : ((List.range (min n m)).all p && n == m) = (List.range n).all p := by
  subst h
  rw [Nat.min_self]
  simp
theorem eqAt_D (I : Inv X pins σ H s) : ∀ (n : Nat) (A : Around) (x y : V) (d e : Dt) (u v : Value), dep d ≤ n → A.units + n < cLine → Is X.K H x d → Is X.K H y e → RelV x u → RelV y v → SeqAt.EqAt A s u v (deq d e)
  | n, A, x, y, d, e, u, v, hd, hu, hx, hy, rx, ry => by
    have same : u = v → SeqAt.EqAt A s u v (deq d e) := fun z => by
      subst z
      have xy : x = y := rx.inj ry
      subst xy
      rw [I.is_inj hx hy, deq_refl]
      exact SeqAt.EqAt.same _
    have hu0 : A.units < cLine := by omega
    have in1 : A.in1.units = A.units + 1 := rfl
    cases hx with
    | non =>
      cases rx
      cases hy with
      | non => cases ry; exact same rfl
      | bl b => cases ry; unfold deq; exact SeqAt.EqAt.none_bool b
      | int b => obtain ⟨t, rfl⟩ := ry; unfold deq; exact SeqAt.EqAt.none_int b t
      | str b => obtain ⟨t, rfl⟩ := ry; unfold deq; exact SeqAt.EqAt.none_str b t
      | tup q r => cases ry; obtain ⟨its, _, p, _⟩ := I.tuple q; unfold deq; exact SeqAt.EqAt.none_tuple p hu0
      | lst q r => cases ry; obtain ⟨its, _, p, _⟩ := I.list q; unfold deq; exact SeqAt.EqAt.none_list p.isList hu0
    | bl a =>
      cases rx
      cases hy with
      | non => cases ry; unfold deq; exact SeqAt.EqAt.bool_none a
      | bl b => cases ry; unfold deq; exact SeqAt.EqAt.bool_bool a b
      | int b => obtain ⟨t, rfl⟩ := ry; unfold deq; exact SeqAt.EqAt.bool_int a b t
      | str b => obtain ⟨t, rfl⟩ := ry; unfold deq; exact SeqAt.EqAt.bool_str a b t
      | tup q r => cases ry; obtain ⟨its, _, p, _⟩ := I.tuple q; unfold deq; exact SeqAt.EqAt.bool_tuple a p hu0
      | lst q r => cases ry; obtain ⟨its, _, p, _⟩ := I.list q; unfold deq; exact SeqAt.EqAt.bool_list a p.isList hu0
    | int a =>
      obtain ⟨t', rfl⟩ := rx
      cases hy with
      | non => cases ry; unfold deq; exact SeqAt.EqAt.int_none a t'
      | bl b => cases ry; unfold deq; exact SeqAt.EqAt.int_bool a t' b
      | int b => obtain ⟨t, rfl⟩ := ry; unfold deq; exact SeqAt.EqAt.int_int a t' b t
      | str b => obtain ⟨t, rfl⟩ := ry; unfold deq; exact SeqAt.EqAt.int_str a t' b t
      | tup q r => cases ry; obtain ⟨its, _, p, _⟩ := I.tuple q; unfold deq; exact SeqAt.EqAt.int_tuple a t' p hu0
      | lst q r => cases ry; obtain ⟨its, _, p, _⟩ := I.list q; unfold deq; exact SeqAt.EqAt.int_list a t' p.isList hu0
    | str a =>
      obtain ⟨t', rfl⟩ := rx
      cases hy with
      | non => cases ry; unfold deq; exact SeqAt.EqAt.str_none a t'
      | bl b => cases ry; unfold deq; exact SeqAt.EqAt.str_bool a t' b
      | int b => obtain ⟨t, rfl⟩ := ry; unfold deq; exact SeqAt.EqAt.str_int a t' b t
      | str b => obtain ⟨t, rfl⟩ := ry; unfold deq; exact SeqAt.EqAt.str_str a t' b t
      | tup q r => cases ry; obtain ⟨its, _, p, _⟩ := I.tuple q; unfold deq; exact SeqAt.EqAt.str_tuple a t' p hu0
      | lst q r => cases ry; obtain ⟨its, _, p, _⟩ := I.list q; unfold deq; exact SeqAt.EqAt.str_list a t' p.isList hu0
    | @tup a xs ds q r =>
      cases (show u = Value.ref a from rx)
      obtain ⟨its, r1, p1, _⟩ := I.tuple q
      cases hy with
      | non => cases ry; unfold deq; exact SeqAt.EqAt.tuple_none p1 hu0
      | bl b => cases ry; unfold deq; exact SeqAt.EqAt.tuple_bool b p1 hu0
      | int b => obtain ⟨t, rfl⟩ := ry; unfold deq; exact SeqAt.EqAt.tuple_int b t p1 hu0
      | str b => obtain ⟨t, rfl⟩ := ry; unfold deq; exact SeqAt.EqAt.tuple_str b t p1 hu0
      | lst q' r' => cases ry; obtain ⟨jts, _, p, _⟩ := I.list q'; unfold deq; exact SeqAt.EqAt.tuple_list p1 p.isList hu0
      | @tup b ys es q' r' =>
        cases (show v = Value.ref b from ry)
        by_cases hab : a = b
        · subst hab; exact same rfl
        · obtain ⟨jts, r2, p2, _⟩ := I.tuple q'
          refine SeqAt.EqAt.of_refs hab ?_
          have l1 := r1.length
          have l2 := r2.length
          have l3 := r.length
          have l4 := r'.length
          cases n with
          | zero => unfold dep at hd; omega
          | succ n =>
            have dl : deps ds ≤ n := by unfold dep at hd; omega
            have z := SeqAt.RcAt.tuples (A := A) (s := s) (e := fun j => deq (ds.getD j .non) (es.getD j .non)) p1 p2 hu0 (items_eq r1 r2 r r' fun j x y d e u v h1 h2 ix iy rx ry => eqAt_D I n A.in1 x y d e u v (Nat.le_trans (dep_le h1) dl) (by omega) ix iy rx ry)
            have ez : ((List.range (min its.toArray.size jts.toArray.size)).all (fun j => deq (ds.getD j .non) (es.getD j .non)) && its.toArray.size == jts.toArray.size) = deq (.tup ds) (.tup es) := by
              rw [deq_tup]
              by_cases hl : ds.length = es.length
              · rw [range_min (by simp; omega), ← deqs_all hl]
                congr 2
                simp; omega
              · rw [deqs_len hl]
                have : (its.toArray.size == jts.toArray.size) = false := by simp; omega
                rw [this, Bool.and_false]
            rw [ez] at z
            exact z
    | @lst a xs ds q r =>
      cases (show u = Value.ref a from rx)
      obtain ⟨its, r1, p1, _⟩ := I.list q
      cases hy with
      | non => cases ry; unfold deq; exact SeqAt.EqAt.list_none p1.isList hu0
      | bl b => cases ry; unfold deq; exact SeqAt.EqAt.list_bool b p1.isList hu0
      | int b => obtain ⟨t, rfl⟩ := ry; unfold deq; exact SeqAt.EqAt.list_int b t p1.isList hu0
      | str b => obtain ⟨t, rfl⟩ := ry; unfold deq; exact SeqAt.EqAt.list_str b t p1.isList hu0
      | tup q' r' => cases ry; obtain ⟨jts, _, p, _⟩ := I.tuple q'; unfold deq; exact SeqAt.EqAt.list_tuple p1.isList p hu0
      | @lst b ys es q' r' =>
        cases (show v = Value.ref b from ry)
        by_cases hab : a = b
        · subst hab; exact same rfl
        · obtain ⟨jts, r2, p2, _⟩ := I.list q'
          refine SeqAt.EqAt.of_refs hab ?_
          have l1 := r1.length
          have l2 := r2.length
          have l3 := r.length
          have l4 := r'.length
          cases n with
          | zero => unfold dep at hd; omega
          | succ n =>
            have dl : deps ds ≤ n := by unfold dep at hd; omega
            by_cases hl : ds.length = es.length
            · have z := SeqAt.RcAt.lists (A := A) (s := s) (e := fun j => deq (ds.getD j .non) (es.getD j .non)) p1.isList p2.isList (by simp; omega) hu0 (items_eq r1 r2 r r' fun j x y d e u v h1 h2 ix iy rx ry => eqAt_D I n A.in1 x y d e u v (Nat.le_trans (dep_le h1) dl) (by omega) ix iy rx ry)
              have ez : (List.range its.toArray.size).all (fun j => deq (ds.getD j .non) (es.getD j .non)) = deq (.lst ds) (.lst es) := by
                rw [deq_lst]
                rw [← deqs_all hl]
                congr 2
                simp; omega
              rw [ez] at z
              exact z
            · have z := SeqAt.RcAt.lists_lengths (A := A) (s := s) p1.isList p2.isList (by simp; omega) hu0
              have ez : deq (.lst ds) (.lst es) = false := by rw [deq_lst]; exact deqs_len hl
              rw [ez]
              exact z
theorem rcAt_D (I : Inv X pins σ H s) (A : Around) {x y : V} {d e : Dt} {u v : Value} {n : Nat} (hd : dep d ≤ n) (hu : A.units + n < cLine) (hx : Is X.K H x d) (hy : Is X.K H y e) (rx : RelV x u) (ry : RelV y v) : SeqAt.RcAt A s u v (deq d e) := by
  have hu0 : A.units < cLine := by omega
  have in1 : A.in1.units = A.units + 1 := rfl
  cases hx with
  | non =>
    cases rx
    cases hy with
    | non =>
      cases ry
      unfold deq
      exact SeqAt.RcAt.none_none
    | bl b =>
      cases ry
      unfold deq
      exact SeqAt.RcAt.none_bool  b
    | int b =>
      obtain ⟨t, rfl⟩ := ry
      unfold deq
      exact SeqAt.RcAt.none_int  b t
    | str b =>
      obtain ⟨t, rfl⟩ := ry
      unfold deq
      exact SeqAt.RcAt.none_str  b t
    | @tup b ys es q' r' =>
      cases (show v = Value.ref b from ry)
      obtain ⟨jts, r2, p2, _⟩ := I.tuple q'
      unfold deq
      exact SeqAt.RcAt.none_tuple  p2 hu0
    | @lst b ys es q' r' =>
      cases (show v = Value.ref b from ry)
      obtain ⟨jts, r2, p2, _⟩ := I.list q'
      unfold deq
      exact SeqAt.RcAt.none_list  p2.isList hu0
  | bl a =>
    cases rx
    cases hy with
    | non =>
      cases ry
      unfold deq
      exact SeqAt.RcAt.bool_none a
    | bl b =>
      cases ry
      unfold deq
      exact SeqAt.RcAt.bool_bool a b
    | int b =>
      obtain ⟨t, rfl⟩ := ry
      unfold deq
      exact SeqAt.RcAt.bool_int a b t
    | str b =>
      obtain ⟨t, rfl⟩ := ry
      unfold deq
      exact SeqAt.RcAt.bool_str a b t
    | @tup b ys es q' r' =>
      cases (show v = Value.ref b from ry)
      obtain ⟨jts, r2, p2, _⟩ := I.tuple q'
      unfold deq
      exact SeqAt.RcAt.bool_tuple a p2 hu0
    | @lst b ys es q' r' =>
      cases (show v = Value.ref b from ry)
      obtain ⟨jts, r2, p2, _⟩ := I.list q'
      unfold deq
      exact SeqAt.RcAt.bool_list a p2.isList hu0
  | int a =>
    obtain ⟨t', rfl⟩ := rx
    cases hy with
    | non =>
      cases ry
      unfold deq
      exact SeqAt.RcAt.int_none a t'
    | bl b =>
      cases ry
      unfold deq
      exact SeqAt.RcAt.int_bool a t' b
    | int b =>
      obtain ⟨t, rfl⟩ := ry
      unfold deq
      exact SeqAt.RcAt.int_int a t' b t
    | str b =>
      obtain ⟨t, rfl⟩ := ry
      unfold deq
      exact SeqAt.RcAt.int_str a t' b t
    | @tup b ys es q' r' =>
      cases (show v = Value.ref b from ry)
      obtain ⟨jts, r2, p2, _⟩ := I.tuple q'
      unfold deq
      exact SeqAt.RcAt.int_tuple a t' p2 hu0
    | @lst b ys es q' r' =>
      cases (show v = Value.ref b from ry)
      obtain ⟨jts, r2, p2, _⟩ := I.list q'
      unfold deq
      exact SeqAt.RcAt.int_list a t' p2.isList hu0
  | str a =>
    obtain ⟨t', rfl⟩ := rx
    cases hy with
    | non =>
      cases ry
      unfold deq
      exact SeqAt.RcAt.str_none a t'
    | bl b =>
      cases ry
      unfold deq
      exact SeqAt.RcAt.str_bool a t' b
    | int b =>
      obtain ⟨t, rfl⟩ := ry
      unfold deq
      exact SeqAt.RcAt.str_int a t' b t
    | str b =>
      obtain ⟨t, rfl⟩ := ry
      unfold deq
      exact SeqAt.RcAt.str_str a t' b t
    | @tup b ys es q' r' =>
      cases (show v = Value.ref b from ry)
      obtain ⟨jts, r2, p2, _⟩ := I.tuple q'
      unfold deq
      exact SeqAt.RcAt.str_tuple a t' p2 hu0
    | @lst b ys es q' r' =>
      cases (show v = Value.ref b from ry)
      obtain ⟨jts, r2, p2, _⟩ := I.list q'
      unfold deq
      exact SeqAt.RcAt.str_list a t' p2.isList hu0
  | @tup a xs ds q r =>
    cases (show u = Value.ref a from rx)
    obtain ⟨its, r1, p1, _⟩ := I.tuple q
    cases hy with
    | non =>
      cases ry
      unfold deq
      exact SeqAt.RcAt.tuple_none  p1 hu0
    | bl b =>
      cases ry
      unfold deq
      exact SeqAt.RcAt.tuple_bool b p1 hu0
    | int b =>
      obtain ⟨t, rfl⟩ := ry
      unfold deq
      exact SeqAt.RcAt.tuple_int b t p1 hu0
    | str b =>
      obtain ⟨t, rfl⟩ := ry
      unfold deq
      exact SeqAt.RcAt.tuple_str b t p1 hu0
    | @tup b ys es q' r' =>
      cases (show v = Value.ref b from ry)
      obtain ⟨jts, r2, p2, _⟩ := I.tuple q'
      have l1 := r1.length
      have l2 := r2.length
      have l3 := r.length
      have l4 := r'.length
      cases n with
      | zero => unfold dep at hd; omega
      | succ n =>
        have dl : deps ds ≤ n := by unfold dep at hd; omega
        have z := SeqAt.RcAt.tuples (A := A) (s := s) (e := fun j => deq (ds.getD j .non) (es.getD j .non)) p1 p2 hu0 (items_eq r1 r2 r r' fun j x y d e u v h1 h2 ix iy rx ry => eqAt_D I n A.in1 x y d e u v (Nat.le_trans (dep_le h1) dl) (by omega) ix iy rx ry)
        have ez : ((List.range (min its.toArray.size jts.toArray.size)).all (fun j => deq (ds.getD j .non) (es.getD j .non)) && its.toArray.size == jts.toArray.size) = deq (.tup ds) (.tup es) := by
          rw [deq_tup]
          by_cases hl : ds.length = es.length
          · rw [range_min (by simp; omega), ← deqs_all hl]
            congr 2
            simp; omega
          · rw [deqs_len hl]
            have : (its.toArray.size == jts.toArray.size) = false := by simp; omega
            rw [this, Bool.and_false]
        rw [ez] at z
        exact z
    | @lst b ys es q' r' =>
      cases (show v = Value.ref b from ry)
      obtain ⟨jts, r2, p2, _⟩ := I.list q'
      unfold deq
      exact SeqAt.RcAt.tuple_list p1 p2.isList hu0
  | @lst a xs ds q r =>
    cases (show u = Value.ref a from rx)
    obtain ⟨its, r1, p1, _⟩ := I.list q
    cases hy with
    | non =>
      cases ry
      unfold deq
      exact SeqAt.RcAt.list_none  p1.isList hu0
    | bl b =>
      cases ry
      unfold deq
      exact SeqAt.RcAt.list_bool b p1.isList hu0
    | int b =>
      obtain ⟨t, rfl⟩ := ry
      unfold deq
      exact SeqAt.RcAt.list_int b t p1.isList hu0
    | str b =>
      obtain ⟨t, rfl⟩ := ry
      unfold deq
      exact SeqAt.RcAt.list_str b t p1.isList hu0
    | @tup b ys es q' r' =>
      cases (show v = Value.ref b from ry)
      obtain ⟨jts, r2, p2, _⟩ := I.tuple q'
      unfold deq
      exact SeqAt.RcAt.list_tuple p1.isList p2 hu0
    | @lst b ys es q' r' =>
      cases (show v = Value.ref b from ry)
      obtain ⟨jts, r2, p2, _⟩ := I.list q'
      have l1 := r1.length
      have l2 := r2.length
      have l3 := r.length
      have l4 := r'.length
      cases n with
      | zero => unfold dep at hd; omega
      | succ n =>
        have dl : deps ds ≤ n := by unfold dep at hd; omega
        by_cases hl : ds.length = es.length
        · have z := SeqAt.RcAt.lists (A := A) (s := s) (e := fun j => deq (ds.getD j .non) (es.getD j .non)) p1.isList p2.isList (by simp; omega) hu0 (items_eq r1 r2 r r' fun j x y d e u v h1 h2 ix iy rx ry => eqAt_D I n A.in1 x y d e u v (Nat.le_trans (dep_le h1) dl) (by omega) ix iy rx ry)
          have ez : (List.range its.toArray.size).all (fun j => deq (ds.getD j .non) (es.getD j .non)) = deq (.lst ds) (.lst es) := by
            rw [deq_lst, ← deqs_all hl]
            congr 2
            simp; omega
          rw [ez] at z
          exact z
        · have z := SeqAt.RcAt.lists_lengths (A := A) (s := s) p1.isList p2.isList (by simp; omega) hu0
          have ez : deq (.lst ds) (.lst es) = false := by rw [deq_lst]; exact deqs_len hl
          rw [ez]
          exact z
theorem rcNe_D (I : Inv X pins σ H s) (A : Around) {x y : V} {d e : Dt} {u v : Value} {n : Nat} (hd : dep d ≤ n) (hu : A.units + n < cLine) (hx : Is X.K H x d) (hy : Is X.K H y e) (rx : RelV x u) (ry : RelV y v) : SeqAt.RcNeAt A s u v (!deq d e) := by
  have hu0 : A.units < cLine := by omega
  have in1 : A.in1.units = A.units + 1 := rfl
  cases hx with
  | non =>
    cases rx
    cases hy with
    | non =>
      cases ry
      unfold deq
      exact SeqAt.RcNeAt.none_none
    | bl b =>
      cases ry
      unfold deq
      exact SeqAt.RcNeAt.none_bool  b
    | int b =>
      obtain ⟨t, rfl⟩ := ry
      unfold deq
      exact SeqAt.RcNeAt.none_int  b t
    | str b =>
      obtain ⟨t, rfl⟩ := ry
      unfold deq
      exact SeqAt.RcNeAt.none_str  b t
    | @tup b ys es q' r' =>
      cases (show v = Value.ref b from ry)
      obtain ⟨jts, r2, p2, _⟩ := I.tuple q'
      unfold deq
      exact SeqAt.RcNeAt.none_tuple  p2 hu0
    | @lst b ys es q' r' =>
      cases (show v = Value.ref b from ry)
      obtain ⟨jts, r2, p2, _⟩ := I.list q'
      unfold deq
      exact SeqAt.RcNeAt.none_list  p2.isList hu0
  | bl a =>
    cases rx
    cases hy with
    | non =>
      cases ry
      unfold deq
      exact SeqAt.RcNeAt.bool_none a
    | bl b =>
      cases ry
      unfold deq
      exact SeqAt.RcNeAt.bool_bool a b
    | int b =>
      obtain ⟨t, rfl⟩ := ry
      unfold deq
      exact SeqAt.RcNeAt.bool_int a b t
    | str b =>
      obtain ⟨t, rfl⟩ := ry
      unfold deq
      exact SeqAt.RcNeAt.bool_str a b t
    | @tup b ys es q' r' =>
      cases (show v = Value.ref b from ry)
      obtain ⟨jts, r2, p2, _⟩ := I.tuple q'
      unfold deq
      exact SeqAt.RcNeAt.bool_tuple a p2 hu0
    | @lst b ys es q' r' =>
      cases (show v = Value.ref b from ry)
      obtain ⟨jts, r2, p2, _⟩ := I.list q'
      unfold deq
      exact SeqAt.RcNeAt.bool_list a p2.isList hu0
  | int a =>
    obtain ⟨t', rfl⟩ := rx
    cases hy with
    | non =>
      cases ry
      unfold deq
      exact SeqAt.RcNeAt.int_none a t'
    | bl b =>
      cases ry
      unfold deq
      exact SeqAt.RcNeAt.int_bool a t' b
    | int b =>
      obtain ⟨t, rfl⟩ := ry
      unfold deq
      exact SeqAt.RcNeAt.int_int a t' b t
    | str b =>
      obtain ⟨t, rfl⟩ := ry
      unfold deq
      exact SeqAt.RcNeAt.int_str a t' b t
    | @tup b ys es q' r' =>
      cases (show v = Value.ref b from ry)
      obtain ⟨jts, r2, p2, _⟩ := I.tuple q'
      unfold deq
      exact SeqAt.RcNeAt.int_tuple a t' p2 hu0
    | @lst b ys es q' r' =>
      cases (show v = Value.ref b from ry)
      obtain ⟨jts, r2, p2, _⟩ := I.list q'
      unfold deq
      exact SeqAt.RcNeAt.int_list a t' p2.isList hu0
  | str a =>
    obtain ⟨t', rfl⟩ := rx
    cases hy with
    | non =>
      cases ry
      unfold deq
      exact SeqAt.RcNeAt.str_none a t'
    | bl b =>
      cases ry
      unfold deq
      exact SeqAt.RcNeAt.str_bool a t' b
    | int b =>
      obtain ⟨t, rfl⟩ := ry
      unfold deq
      exact SeqAt.RcNeAt.str_int a t' b t
    | str b =>
      obtain ⟨t, rfl⟩ := ry
      unfold deq
      exact SeqAt.RcNeAt.str_str a t' b t
    | @tup b ys es q' r' =>
      cases (show v = Value.ref b from ry)
      obtain ⟨jts, r2, p2, _⟩ := I.tuple q'
      unfold deq
      exact SeqAt.RcNeAt.str_tuple a t' p2 hu0
    | @lst b ys es q' r' =>
      cases (show v = Value.ref b from ry)
      obtain ⟨jts, r2, p2, _⟩ := I.list q'
      unfold deq
      exact SeqAt.RcNeAt.str_list a t' p2.isList hu0
  | @tup a xs ds q r =>
    cases (show u = Value.ref a from rx)
    obtain ⟨its, r1, p1, _⟩ := I.tuple q
    cases hy with
    | non =>
      cases ry
      unfold deq
      exact SeqAt.RcNeAt.tuple_none  p1 hu0
    | bl b =>
      cases ry
      unfold deq
      exact SeqAt.RcNeAt.tuple_bool b p1 hu0
    | int b =>
      obtain ⟨t, rfl⟩ := ry
      unfold deq
      exact SeqAt.RcNeAt.tuple_int b t p1 hu0
    | str b =>
      obtain ⟨t, rfl⟩ := ry
      unfold deq
      exact SeqAt.RcNeAt.tuple_str b t p1 hu0
    | @tup b ys es q' r' =>
      cases (show v = Value.ref b from ry)
      obtain ⟨jts, r2, p2, _⟩ := I.tuple q'
      have l1 := r1.length
      have l2 := r2.length
      have l3 := r.length
      have l4 := r'.length
      cases n with
      | zero => unfold dep at hd; omega
      | succ n =>
        have dl : deps ds ≤ n := by unfold dep at hd; omega
        have z := SeqAt.RcNeAt.tuples (A := A) (s := s) (e := fun j => deq (ds.getD j .non) (es.getD j .non)) p1 p2 hu0 (items_eq r1 r2 r r' fun j x y d e u v h1 h2 ix iy rx ry => eqAt_D I n A.in1 x y d e u v (Nat.le_trans (dep_le h1) dl) (by omega) ix iy rx ry)
        have ez : ((List.range (min its.toArray.size jts.toArray.size)).all (fun j => deq (ds.getD j .non) (es.getD j .non)) && its.toArray.size == jts.toArray.size) = deq (.tup ds) (.tup es) := by
          rw [deq_tup]
          by_cases hl : ds.length = es.length
          · rw [range_min (by simp; omega), ← deqs_all hl]
            congr 2
            simp; omega
          · rw [deqs_len hl]
            have : (its.toArray.size == jts.toArray.size) = false := by simp; omega
            rw [this, Bool.and_false]
        rw [ez] at z
        exact z
    | @lst b ys es q' r' =>
      cases (show v = Value.ref b from ry)
      obtain ⟨jts, r2, p2, _⟩ := I.list q'
      unfold deq
      exact SeqAt.RcNeAt.tuple_list p1 p2.isList hu0
  | @lst a xs ds q r =>
    cases (show u = Value.ref a from rx)
    obtain ⟨its, r1, p1, _⟩ := I.list q
    cases hy with
    | non =>
      cases ry
      unfold deq
      exact SeqAt.RcNeAt.list_none  p1.isList hu0
    | bl b =>
      cases ry
      unfold deq
      exact SeqAt.RcNeAt.list_bool b p1.isList hu0
    | int b =>
      obtain ⟨t, rfl⟩ := ry
      unfold deq
      exact SeqAt.RcNeAt.list_int b t p1.isList hu0
    | str b =>
      obtain ⟨t, rfl⟩ := ry
      unfold deq
      exact SeqAt.RcNeAt.list_str b t p1.isList hu0
    | @tup b ys es q' r' =>
      cases (show v = Value.ref b from ry)
      obtain ⟨jts, r2, p2, _⟩ := I.tuple q'
      unfold deq
      exact SeqAt.RcNeAt.list_tuple p1.isList p2 hu0
    | @lst b ys es q' r' =>
      cases (show v = Value.ref b from ry)
      obtain ⟨jts, r2, p2, _⟩ := I.list q'
      have l1 := r1.length
      have l2 := r2.length
      have l3 := r.length
      have l4 := r'.length
      cases n with
      | zero => unfold dep at hd; omega
      | succ n =>
        have dl : deps ds ≤ n := by unfold dep at hd; omega
        by_cases hl : ds.length = es.length
        · have z := SeqAt.RcNeAt.lists (A := A) (s := s) (e := fun j => deq (ds.getD j .non) (es.getD j .non)) p1.isList p2.isList (by simp; omega) hu0 (items_eq r1 r2 r r' fun j x y d e u v h1 h2 ix iy rx ry => eqAt_D I n A.in1 x y d e u v (Nat.le_trans (dep_le h1) dl) (by omega) ix iy rx ry)
          have ez : (List.range its.toArray.size).all (fun j => deq (ds.getD j .non) (es.getD j .non)) = deq (.lst ds) (.lst es) := by
            rw [deq_lst, ← deqs_all hl]
            congr 2
            simp; omega
          rw [ez] at z
          exact z
        · have z := SeqAt.RcNeAt.lists_lengths (A := A) (s := s) p1.isList p2.isList (by simp; omega) hu0
          have ez : deq (.lst ds) (.lst es) = false := by rw [deq_lst]; exact deqs_len hl
          rw [ez]
          exact z
end
def rEqD (K : PySem.W.Frag) : R2 := fun x y H Q => ∃ d e, Is K H x d ∧ Is K H y e ∧ dep d ≤ 20 ∧ Q (.bl (deq d e)) H
def rNeD (K : PySem.W.Frag) : R2 := fun x y H Q => ∃ d e, Is K H x d ∧ Is K H y e ∧ dep d ≤ 20 ∧ Q (.bl (!deq d e)) H
theorem op_eqD {X : Cx} (hu : X.A.units + 64 < cLine) : OpR X (compareOp .Eq) (rEqD X.K) := by
  intro pins s σ H x y v u Q I rx ry h
  obtain ⟨d, e, hx, hy, hd, q⟩ := h
  exact rcAt_D I X.A hd (by omega) hx hy rx ry _ _ _ _ ⟨.bl _, H, I, rfl, q⟩
theorem op_neD {X : Cx} (hu : X.A.units + 64 < cLine) : OpR X (compareOp .NotEq) (rNeD X.K) := by
  intro pins s σ H x y v u Q I rx ry h
  obtain ⟨d, e, hx, hy, hd, q⟩ := h
  exact rcNe_D I X.A hd (by omega) hx hy rx ry _ _ _ _ ⟨.bl _, H, I, rfl, q⟩
end L2
set_option Elab.async false
set_option linter.all false
set_option maxRecDepth 100000
namespace L2
open PySem PySem.Spec PyProof.Rows
end L2
namespace L2
open PySem PySem.Spec PyProof.Rows
section
variable (P : Program) (w : World)
end
section
variable {P : Program} {w : World} {H H' : Hp} {h h' : Heap} {a : Addr} {o : HO}
end
section
variable {P : Program} {w : World} {H : Hp} {h h' : Heap} {x e : Addr} {o' : HO}
end
section
variable {fs fs' ex ex' : List Addr} {H H1 H2 : Hp} {h h1 h2 h' : Heap} {a x e : Addr} {o : HO}
end
end L2
namespace L2
open PySem PySem.Spec PyProof.Rows
section
variable {X : Cx} {pins : List (Addr × Obj)} {σ : List (Option V)} {H H' : Hp} {s : Shared} {h' : Heap}
end
end L2
namespace L2
open PySem PySem.Spec PyProof.Rows
section
variable {X : Cx}
variable {a b : Expr} {ta tb : TE} {pos : Pos}
variable {tA tB' : TT} {rest : List Expr}
end
end L2
namespace L2
open PySem PySem.Spec PyProof.Rows
section
variable {X : Cx} {pins : List (Addr × Obj)} {σ : St} {H : Hp} {s : Shared} {a : Addr} {xs ys : List V}
end
section
variable {X : Cx} {pins : List (Addr × Obj)} {σ : St} {H : Hp} {s : Shared} {E : Value → Shared → Prop}
end
section
variable {X : Cx} {st : Stmt} {rest : List Stmt} {t u : TS} {e : Expr} {te : TE} {pos : Pos}
end
section
variable {X : Cx} {pos : Pos}
end
section
variable {X : Cx} {pos : Pos}
end
end L2
namespace L2
open PySem PySem.Spec PyProof.Rows
section
variable {X : Cx} {tg : Expr}
end
end L2
namespace L2
open PySem PySem.Spec PyProof.Rows
section
variable {X : Cx} {a b c : Expr} {ta tb tc : TE} {pos : Pos}
end
section
variable {X : Cx} {a b c : Expr} {ta tb tc : TE} {pos : Pos}
end
end L2
namespace L2
open PySem PySem.Spec PyProof.Rows
section
variable {prog : Program} {w : World} {A : Around} {E : Value → Shared → Prop} {s : Shared} {K : PySem.W.Frag} {x dx C f : Addr} {mA : Str → Option Value} {name : Str} {v : Value}
end
section
variable {P : Program} {w : World} {H H' : Hp} {h h' : Heap} {a C dx : Addr} {fs fs' : List (Str × V)}
end
section
variable {X : Cx} {pins : List (Addr × Obj)} {σ : St} {H : Hp} {s : Shared} {a C dx : Addr} {fs : List (Str × V)} {f : Str} {v : V} {A : Around} {E : Value → Shared → Prop}
end
section
variable {X : Cx} {o e value : Expr} {f : Str} {pos pos' tpos : Pos} {ta tv : TE}
end
section
variable {X : Cx} {pins : List (Addr × Obj)} {σ : St} {H : Hp} {s : Shared} {A : Around} {E : Value → Shared → Prop} {Q : Value → Shared → Prop} {c : Value} {b : Bool}
end
end L2
namespace L2
open PySem PySem.Spec PyProof.Rows
section
variable {X : Cx} {e : Expr} {es : List Expr} {te : TE} {t : TA} {pos : Pos}
end
section
variable {X : Cx} {pins : List (Addr × Obj)} {σ : St} {H : Hp} {s s' : Shared}
end
section
variable {X : Cx} {CX : CXT} {k : Nat} {f C : Addr} {fd : FuncData} {ps : List Str} {sp : Sp} {dvs : List V} {ds : List Value} {E : XK} {x m : Str} {p pos apos : Pos} {e o : Expr} {es : List Expr} {ta : TE} {t : TA}
end
section
variable {X : Cx} {CX : CXT} {k : Nat} {f C : Addr} {fd : FuncData} {ps ks : List Str} {sp : Sp} {E : XK} {x m : Str} {p pos apos kpos : Pos} {e o : Expr} {es : List Expr} {kws : List Keyword} {te ta : TE} {t tk : TA} {nm : Option Str}
variable {g : List Value → List Value → List Value} {gV : List V → List V → List V}
end
end L2
namespace L2
open PySem PySem.Spec PyProof.Rows
section
variable {X : Cx} {x : Str} {p pos : Pos} {e : Expr} {es : List Expr} {t : TA} {id T : String} {r : List V → Hp → VK → Prop}
end
end L2
namespace L2
open PySem PySem.Spec PyProof.Rows
section
variable {κ : Type} [DecidableEq κ]
def valV (kvs : List (κ × V)) (k : κ) : Option V := (kvs.find? fun kv => decide (kv.1 = k)).map (·.2)
def putK (kvs : List (κ × V)) (k : κ) (v : V) : List (κ × V) :=
  if (kvs.any fun kv => decide (kv.1 = k)) = true then kvs.map (fun kv => if kv.1 = k then (kv.1, v) else kv) else kvs ++ [(k, v)]
def dropK (kvs : List (κ × V)) (k : κ) : List (κ × V) := kvs.filter fun kv => decide (kv.1 ≠ k)
theorem valV_pos {p : κ × V} {r : List (κ × V)} {k : κ} (e : p.1 = k) : valV (p :: r) k = some p.2 := by simp [valV, List.find?_cons, e]
theorem valV_neg {p : κ × V} {r : List (κ × V)} {k : κ} (e : ¬ p.1 = k) : valV (p :: r) k = valV r k := by simp [valV, List.find?_cons, e]
theorem valV_any (k : κ) : ∀ kvs : List (κ × V), (kvs.any fun kv => decide (kv.1 = k)) = (valV kvs k).isSome
  | [] => rfl
  | p :: r => by
    rw [List.any_cons]
    by_cases e : p.1 = k
    · simp only [valV_pos e, decide_eq_true e, Bool.true_or, Option.isSome_some]
    · rw [valV_neg e, decide_eq_false e, Bool.false_or]; exact valV_any k r
theorem length_putK (kvs : List (κ × V)) (k : κ) (v : V) : (putK kvs k v).length ≤ kvs.length + 1 := by
  unfold putK
  split
  · rw [List.length_map]; omega
  · rw [List.length_append, List.length_cons, List.length_nil]; omega
theorem RelO.isSome_eq {o : Option V} {u : Option Value} (r : RelO o u) : o.isSome = u.isSome := by
  cases o with
  | none => cases u with
    | none => rfl
    | some _ => exact (show False from r).elim
  | some _ => cases u with
    | none => exact (show False from r).elim
    | some _ => rfl
theorem RelO.getD {o : Option V} {u : Option Value} {d : V} {d' : Value} (r : RelO o u) (rd : RelV d d') : RelV (o.getD d) (u.getD d') := by
  cases o with
  | none => cases u with
    | none => exact rd
    | some _ => exact (show False from r).elim
  | some _ => cases u with
    | none => exact (show False from r).elim
    | some _ => exact r
theorem KV.val {kvs : List (κ × V)} {vs : List (κ × Value)} (r : KV kvs vs) (k : κ) : RelO (valV kvs k) (valueAt vs k) := by
  unfold KV at r
  induction r with
  | nil => exact True.intro
  | @cons p q ps qs h t ih =>
    obtain ⟨h1, h2⟩ := h
    by_cases e : p.1 = k
    · have e' : q.1 = k := h1.symm.trans e
      have b : valueAt (q :: qs) k = some q.2 := by simp [valueAt, List.find?_cons, e']
      rw [valV_pos e, b]; exact h2
    · have e' : ¬ q.1 = k := fun z => e (h1.trans z)
      have b : valueAt (q :: qs) k = valueAt qs k := by simp [valueAt, List.find?_cons, e']
      rw [valV_neg e, b]; exact ih
theorem KV.any {kvs : List (κ × V)} {vs : List (κ × Value)} (r : KV kvs vs) (k : κ) : (kvs.any fun kv => decide (kv.1 = k)) = vs.any fun kv => decide (kv.1 = k) := by
  unfold KV at r
  induction r with
  | nil => rfl
  | cons h t ih => rw [List.any_cons, List.any_cons, ih, h.1]
theorem KV.repl {kvs : List (κ × V)} {vs : List (κ × Value)} (r : KV kvs vs) (k : κ) {y : V} {u : Value} (ry : RelV y u) :
    KV (kvs.map fun kv => if kv.1 = k then (kv.1, y) else kv) (vs.map fun kv => if kv.1 = k then (kv.1, u) else kv) := by
  unfold KV at r ⊢
  induction r with
  | nil => exact .nil
  | @cons p q ps qs h t ih =>
    rw [List.map_cons, List.map_cons]
    refine .cons ?_ ih
    obtain ⟨h1, h2⟩ := h
    by_cases e : p.1 = k
    · rw [if_pos e, if_pos (h1.symm.trans e)]; exact ⟨h1, ry⟩
    · rw [if_neg e, if_neg (fun z => e (h1.trans z))]; exact ⟨h1, h2⟩
theorem KV.put {kvs : List (κ × V)} {vs : List (κ × Value)} (r : KV kvs vs) (k : κ) {y : V} {u : Value} (ry : RelV y u) : KV (putK kvs k y) (stored vs k u) := by
  unfold putK stored
  rw [r.any k]
  by_cases e : (vs.any fun kv => decide (kv.1 = k)) = true
  · rw [if_pos e, if_pos e]; exact r.repl k ry
  · rw [if_neg e, if_neg e]; exact Paired.snoc r ⟨rfl, ry⟩
theorem KV.drop {kvs : List (κ × V)} {vs : List (κ × Value)} (r : KV kvs vs) (k : κ) : KV (dropK kvs k) (without vs k) := by
  unfold KV at r ⊢
  unfold dropK without
  induction r with
  | nil => exact .nil
  | @cons p q ps qs h t ih =>
    obtain ⟨h1, h2⟩ := h
    rw [List.filter_cons, List.filter_cons]
    by_cases e : p.1 = k
    · have a : ¬ decide (p.1 ≠ k) = true := by simp [e]
      have b : ¬ decide (q.1 ≠ k) = true := by simp [h1.symm.trans e]
      rw [if_neg a, if_neg b]; exact ih
    · have e' : ¬ q.1 = k := fun z => e (h1.trans z)
      have a : decide (p.1 ≠ k) = true := by simp [e]
      have b : decide (q.1 ≠ k) = true := by simp [e']
      rw [if_pos a, if_pos b]; exact .cons ⟨h1, h2⟩ ih
theorem KV.length {kvs : List (κ × V)} {vs : List (κ × Value)} (r : KV kvs vs) : kvs.length = vs.length := Paired.length r
end
theorem kV_is {P : Program} {w : World} {k : Key} {u : Value} (r : RelV (kV k) u) : (mixKind P w).is k u = true := by
  cases k with
  | inl i => obtain ⟨t, e⟩ := (show ∃ t, u = Value.int i t from r); subst e; exact mixKind_int P w i t
  | inr x => obtain ⟨t, e⟩ := (show ∃ t, u = Value.str x t from r); subst e; exact mixKind_str P w x t
theorem items_are {P : Program} {w : World} : ∀ {ks : List Key} {us : List Value}, Vals (ks.map kV) us → ItemsAre (mixKind P w) ks us
  | [], _, r => by rw [List.map_nil] at r; cases r; exact .nil
  | k :: ks, _, r => by
    rw [List.map_cons] at r
    cases r with
    | cons h t => exact .cons (kV_is h) (items_are t)
abbrev KT (H : Hp) : List (List Key × V) → List (List Key × Addr × Value) → Prop := Paired fun p q => p.1 = q.1 ∧ H q.2.1 = some (.tup (p.1.map kV)) ∧ RelV p.2 q.2.2
theorem KT.val {H : Hp} {kvs : List (List Key × V)} {xs : List (List Key × Addr × Value)} (r : KT H kvs xs) (k : List Key) : RelO (valV kvs k) ((atKey xs k).map (·.2)) := by
  induction r with
  | nil => exact True.intro
  | @cons p q ps qs h t ih =>
    obtain ⟨h1, _, h2⟩ := h
    by_cases e : p.1 = k
    · have e' : q.1 = k := h1.symm.trans e
      have b : atKey (q :: qs) k = some q.2 := by simp [atKey, List.find?_cons, e']
      rw [valV_pos e, b]; exact h2
    · have e' : ¬ q.1 = k := fun z => e (h1.trans z)
      have b : atKey (q :: qs) k = atKey qs k := by simp [atKey, List.find?_cons, e']
      rw [valV_neg e, b]; exact ih
theorem KT.repl {H : Hp} {kvs : List (List Key × V)} {xs : List (List Key × Addr × Value)} (r : KT H kvs xs) (k : List Key) {y : V} {u : Value} (ry : RelV y u) :
    KT H (kvs.map fun kv => if kv.1 = k then (kv.1, y) else kv) (xs.map (putAt k u)) := by
  induction r with
  | nil => exact .nil
  | @cons p q ps qs h t ih =>
    rw [List.map_cons, List.map_cons]
    refine .cons ?_ ih
    obtain ⟨h1, h2, h3⟩ := h
    unfold putAt
    by_cases e : p.1 = k
    · rw [if_pos e, if_pos (h1.symm.trans e)]; exact ⟨h1, h2, ry⟩
    · rw [if_neg e, if_neg (fun z => e (h1.trans z))]; exact ⟨h1, h2, h3⟩
theorem KT.put {H : Hp} {kvs : List (List Key × V)} {xs : List (List Key × Addr × Value)} (r : KT H kvs xs) (k : List Key) {b : Addr} {y : V} {u : Value} (hb : H b = some (.tup (k.map kV))) (ry : RelV y u) :
    KT H (putK kvs k y) (storedH xs k b u) := by
  have e : (kvs.any fun kv => decide (kv.1 = k)) = (atKey xs k).isSome := by
    rw [valV_any, (r.val k).isSome_eq, Option.isSome_map]
  unfold putK storedH
  rw [e]
  by_cases q : (atKey xs k).isSome = true
  · rw [if_pos q, if_pos q]; exact r.repl k ry
  · rw [if_neg q, if_neg q]; exact Paired.snoc r ⟨rfl, hb, ry⟩
theorem KT.keeps {H H' : Hp} {kvs : List (List Key × V)} {xs : List (List Key × Addr × Value)} (r : KT H kvs xs) (ht : ∀ b ys, H b = some (.tup ys) → H' b = some (.tup ys)) : KT H' kvs xs :=
  Paired.mapP r fun _ _ z => ⟨z.1, ht _ _ z.2.1, z.2.2⟩
section
variable {P : Program} {w : World} {H : Hp} {h : Heap} {a : Addr}
theorem rd_of {u : HO} (ok : HOk P w H h) (e : Rd H a u) : ObjOk P w H h a u := e.ok ok
theorem dk_rd {kvs : List (Key × V)} (ok : HOk P w H h) (e : Rd H a (.dK kvs)) : kvs.length ≤ sizeLine ∧ (a == sysModules) = false ∧ ∃ vs, KV kvs vs ∧ h.DictOf (mixKind P w) a vs :=
  show ObjOk P w H h a (.dK kvs) from rd_of ok e
theorem dk_of {kvs : List (Key × V)} (ok : HOk P w H h) (e : H a = some (.dK kvs)) : kvs.length ≤ sizeLine ∧ (a == sysModules) = false ∧ ∃ vs, KV kvs vs ∧ h.DictOf (mixKind P w) a vs := dk_rd ok (.inl e)
theorem key_of {ks : List Key} (ok : HOk P w H h) (e : H a = some (.tup (ks.map kV))) : (tupleKind (mixKind P w)).is h ks a := by
  obtain ⟨_, its, r, o, h1, h2, n, h3⟩ := (show ObjOk P w H h a (.tup (ks.map kV)) from ok a _ e)
  exact ⟨o, its.toArray, n, h1, h2, h3, by simpa using items_are r⟩
theorem dt_rd {kvs : List (List Key × V)} (ok : HOk P w H h) (e : Rd H a (.dT kvs)) : kvs.length ≤ sizeLine ∧ (a == sysModules) = false ∧
    ∃ xs, KT H kvs xs ∧ h.DictOfH (tupleKind (mixKind P w)) a xs := by
  obtain ⟨z, y, xs, r, o, es, ep, h1, h2, h3, h4, h5⟩ := (show ObjOk P w H h a (.dT kvs) from rd_of ok e)
  refine ⟨z, y, xs, r, o, es, ep, h1, h2, h3, h4, fun x hx => ?_, h5⟩
  have all : ∀ {l : List (List Key × V)} {m : List (List Key × Addr × Value)}, KT H l m → ∀ x ∈ m, (tupleKind (mixKind P w)).is h x.1 x.2.1 := by
    intro l m q
    induction q with
    | nil => intro x hx; exact nomatch hx
    | @cons p q ps qs hq t ih =>
      intro x hx
      rcases List.mem_cons.mp hx with e | hx
      · subst e
        exact key_of ok (by rw [← hq.1]; exact hq.2.1)
      · exact ih x hx
  exact all r x hx
theorem dt_of {kvs : List (List Key × V)} (ok : HOk P w H h) (e : H a = some (.dT kvs)) : kvs.length ≤ sizeLine ∧ (a == sysModules) = false ∧
    ∃ xs, KT H kvs xs ∧ h.DictOfH (tupleKind (mixKind P w)) a xs := dt_rd ok (.inl e)
end
def DGet (H : Hp) (a : Addr) (y : V) (r : Option V) : Prop :=
  (∃ kvs k, Rd H a (.dK kvs) ∧ y = kV k ∧ r = valV kvs k) ∨ ∃ kvs k b, Rd H a (.dT kvs) ∧ y = .ref b ∧ H b = some (.tup (k.map kV)) ∧ r = valV kvs k
def DPut (H : Hp) (a : Addr) (y v : V) (H' : Hp) : Prop :=
  (∃ kvs k, H a = some (.dK kvs) ∧ y = kV k ∧ kvs.length < sizeLine ∧ H' = upd H a (.dK (putK kvs k v))) ∨
  ∃ kvs k b, H a = some (.dT kvs) ∧ y = .ref b ∧ H b = some (.tup (k.map kV)) ∧ kvs.length < sizeLine ∧ H' = upd H a (.dT (putK kvs k v))
theorem DGet.k {H : Hp} {a : Addr} {kvs : List (Key × V)} {k : Key} (e : H a = some (.dK kvs)) : DGet H a (kV k) (valV kvs k) := .inl ⟨kvs, k, .inl e, rfl, rfl⟩
theorem DGet.t {H : Hp} {a b : Addr} {kvs : List (List Key × V)} {k : List Key} (e : H a = some (.dT kvs)) (eb : H b = some (.tup (k.map kV))) : DGet H a (.ref b) (valV kvs k) := .inr ⟨kvs, k, b, .inl e, rfl, eb, rfl⟩
theorem DPut.k {H : Hp} {a : Addr} {kvs : List (Key × V)} {k : Key} {v : V} (e : H a = some (.dK kvs)) (hl : kvs.length < sizeLine) : DPut H a (kV k) v (upd H a (.dK (putK kvs k v))) := .inl ⟨kvs, k, e, rfl, hl, rfl⟩
theorem DPut.t {H : Hp} {a b : Addr} {kvs : List (List Key × V)} {k : List Key} {v : V} (e : H a = some (.dT kvs)) (eb : H b = some (.tup (k.map kV))) (hl : kvs.length < sizeLine) :
    DPut H a (.ref b) v (upd H a (.dT (putK kvs k v))) := .inr ⟨kvs, k, b, e, rfl, eb, hl, rfl⟩
section
variable {X : Cx} {pins : List (Addr × Obj)} {σ : St} {H : Hp} {s : Shared} {a : Addr} {y v : V} {u r : Value} {o : Option V} {A : Around} {E : Value → Shared → Prop}
theorem Inv.big (I : Inv X pins σ H s) : sysModules < s.heap.objs.size := by
  have h : mainGlobals < s.heap.objs.size := (I.mod.glob.keeps I.bk).lt
  exact Nat.lt_trans (by decide) h
theorem d_getItem {Q : Value → Shared → Prop} (hu : A.units + 1 < cLine) (I : Inv X pins σ H s) (g : DGet H a y (some v)) (ry : RelV y u) (h : ∀ w' s', Inv X pins σ H s' → RelV v w' → Q w' s') :
    wpAny (model X.prog X.w) A (getItem (.ref a) u) Q E s := by
  rcases g with ⟨kvs, k, e, ey, l⟩ | ⟨kvs, k, b, e, ey, eb, l⟩
  · subst ey
    obtain ⟨z, hd, vs, rel, dd⟩ := dk_rd I.hok e
    obtain ⟨w', hw, rw'⟩ := RelO.some_of (v := v) (o := valueAt vs k) (by rw [l]; exact rel.val k)
    exact wpAny_getItem_of (kV_is ry) dd.mapOf hw (h w' _ (I.tok _) rw')
  · subst ey
    cases (show u = Value.ref b from ry)
    obtain ⟨z, hd, xs, rel, dd⟩ := dt_rd I.hok e
    obtain ⟨w', hw, rw'⟩ := RelO.some_of (v := v) (o := (atKey xs k).map (·.2)) (by rw [l]; exact rel.val k)
    obtain ⟨p, hp, hp2⟩ := Option.map_eq_some_iff.mp hw
    refine wpAny_getItem_heap (tupleKind_room_in1 hu) (key_of I.hok eb) dd hp ?_
    rw [hp2]
    exact h w' _ (I.tok _) rw'
theorem d_notIn {Q : Value → Shared → Prop} (hu : A.units + 1 < cLine) (I : Inv X pins σ H s) (g : DGet H a y o) (ry : RelV y u) (h : ∀ s', Inv X pins σ H s' → Q (.bool (!o.isSome)) s') :
    wpAny (model X.prog X.w) A (compareOp .NotIn u (.ref a)) Q E s := by
  rcases g with ⟨kvs, k, e, ey, l⟩ | ⟨kvs, k, b, e, ey, eb, l⟩
  · subst ey
    obtain ⟨z, hd, vs, rel, dd⟩ := dk_rd I.hok e
    refine wpAny_notIn_of (kV_is ry) hd dd.mapOf ?_
    rw [← (rel.val k).isSome_eq, ← l]
    exact h _ (I.tok _)
  · subst ey
    cases (show u = Value.ref b from ry)
    obtain ⟨z, hd, xs, rel, dd⟩ := dt_rd I.hok e
    refine wpAny_notIn_heap (tupleKind_room_in1 hu) (key_of I.hok eb) hd dd ?_
    have q := (rel.val k).isSome_eq
    rw [Option.isSome_map] at q
    rw [← q, ← l]
    exact h _ (I.tok _)
theorem d_write {h' : Heap} {t' : Nat} {ob : HO} (I : Inv X pins σ H s) (mu : Mut (H a)) (hs : Heap.SameBut a s.heap h') (he : ∃ q, h'.get? a = some q) (new : ObjOk X.prog X.w (upd H a ob) h' a ob) :
    Inv X pins σ (upd H a ob) { s with heap := h', toks := t' } :=
  I.write (x := a) (e := a) mu (.inl rfl) (fun b q hb z => (hs.2 b hb).trans z) he new
theorem dk_new {P : Program} {w : World} {H' : Hp} {h' : Heap} {kvs : List (Key × V)} {vs : List (Key × Value)} (z : kvs.length ≤ sizeLine) (hd : (a == sysModules) = false) (rel : KV kvs vs) (dd : h'.DictOf (mixKind P w) a vs) :
    ObjOk P w H' h' a (.dK kvs) := ⟨z, hd, vs, rel, dd⟩
theorem d_setItem {H' : Hp} {Q : Unit → Shared → Prop} (hu : A.units + 1 < cLine) (I : Inv X pins σ H s) (g : DPut H a y v H') (ry : RelV y u) (rv : RelV v r) (h : ∀ s', Inv X pins σ H' s' → Q () s') :
    wpAny (model X.prog X.w) A (setItem (.ref a) u r) Q E s := by
  rcases g with ⟨kvs, k, e, ey, l, eH⟩ | ⟨kvs, k, b, e, ey, eb, l, eH⟩
  · subst ey eH
    obtain ⟨z, hd, vs, rel, dd⟩ := dk_of I.hok e
    have hz : vs.length ≤ sizeLine := by rw [← rel.length]; exact z
    have hl : (putK kvs k v).length ≤ sizeLine := by have := length_putK kvs k v; omega
    refine wpAny_setItem_pairs (hsz := hz) (kV_is ry) dd fun h' dd' hs => h _ ?_
    have he : ∃ q, h'.get? a = some q := let ⟨q, _, _, hq, _⟩ := dd'; ⟨q, hq⟩
    exact d_write I (by rw [e]; exact True.intro) hs he (dk_new hl hd (rel.put k rv) dd')
  · subst ey eH
    cases (show u = Value.ref b from ry)
    obtain ⟨z, hd, xs, rel, dd⟩ := dt_of I.hok e
    have hz : xs.length ≤ sizeLine := by rw [← Paired.length rel]; exact z
    have hl : (putK kvs k v).length ≤ sizeLine := by have := length_putK kvs k v; omega
    refine wpAny_setItem_heap (hsz := hz) (tupleKind_room_in1 hu) (key_of I.hok eb) dd fun h' dd' hs => h _ ?_
    obtain ⟨q, es, ep, hq, h2, h3, h4, _, h5⟩ := dd'
    refine d_write I (by rw [e]; exact True.intro) hs ⟨q, hq⟩ ⟨hl, hd, _, (rel.put k eb rv).keeps fun c ys ec => ?_, q, es, ep, hq, h2, h3, h4, h5⟩
    rw [upd_ne (ne_of ec e (fun z => nomatch z))]
    exact ec
end
section
variable {X : Cx} {pins : List (Addr × Obj)} {σ : St} {H : Hp} {s : Shared} {a : Addr} {kvs : List (Key × V)} {k : Key} {u : Value} {A : Around} {E : Value → Shared → Prop}
theorem d_len {Q : Value → Shared → Prop} (I : Inv X pins σ H s) (e : Rd H a (.dK kvs)) (h : ∀ t s', Inv X pins σ H s' → Q (.int kvs.length t) s') : wpAny (model X.prog X.w) A (call (.builtin "len") [.ref a]) Q E s := by
  obtain ⟨z, hd, vs, rel, dd⟩ := dk_rd I.hok e
  refine call_len_dict hd dd (by rw [← rel.length]; rw [sizeLine_eq] at z; omega) ?_
  rw [← rel.length]
  exact h _ _ (I.tok _)
end
theorem dict_typeIs {X : Cx} {pins : List (Addr × Obj)} {σ : St} {H : Hp} {s : Shared} {a : Addr} {y : V} {o : Option V} (I : Inv X pins σ H s) (g : DGet H a y o) : s.TypeIs (.ref a) "dict" := by
  rcases g with ⟨kvs, k, e, _, _⟩ | ⟨kvs, k, b, e, _, _, _⟩
  · obtain ⟨_, _, vs, _, dd⟩ := dk_rd I.hok e
    exact dd.typeIs
  · obtain ⟨_, _, xs, _, dd⟩ := dt_rd I.hok e
    exact dd.typeIs
section
variable {X : Cx} {o i e value : Expr} {pos pos' tpos : Pos} {td ty tv : TE}
end
theorem dk_empty {P : Program} {w : World} {H : Hp} (h : Heap) (hb : sysModules < h.objs.size) : ObjOk P w H (h.push { cls := .type "dict", data := .dict #[] }) h.objs.size (.dK []) :=
  ⟨Nat.zero_le _, beq_eq_false_iff_ne.mpr (Ne.symm (Nat.ne_of_lt hb)), [], .nil, Heap.DictOf.new h⟩
def tDNewK : TE := fun _ H Q => ∀ p, H p = none → Q (.ref p) (upd H p (.dK []))
section
variable {X : Cx} {pos : Pos}
theorem pe_dnewK : PE X (.Dict [] [] pos) tDNewK := fun pins s σ H Q I h =>
  wpAny_Dict_empty ⟨.ref s.heap.objs.size, _, I.laid (a := s.heap.objs.size) (o := .dK []) (t' := s.toks) (fun _ _ q => Heap.get?_push_of_some _ q) (Nat.le_refl _) (dk_empty s.heap I.big), rfl, h _ (I.hok.fresh (Nat.le_refl _))⟩
end
abbrev VV : List (V × V) → List (Value × Value) → Prop := Paired fun p q => RelV p.1 q.1 ∧ RelV p.2 q.2
structure M1 (X : Cx) (o : Expr) (m : Str) (apos : Pos) (e : Expr) (cpos : Pos) : Prop where
  base : attributeBase o m X.env (eval o X.env) = eval o X.env
  few : ((backTo cpos (starEach [e] X.env)).all (fun x => !x.1) && (backToKw cpos (keywordEach [] X.env)).all (fun x => x.1.isSome)
    && decide (([e] : List Expr).length + ([] : List Keyword).length + (if ([] : List Keyword).isEmpty then 0 else 1) < 30)) = true
  line : (apos.endLine == cpos.line) = true
  trees : backTo cpos (starEach [e] X.env) = [(false, eval e X.env)]
structure M2 (X : Cx) (o : Expr) (m : Str) (apos : Pos) (e f : Expr) (cpos : Pos) : Prop where
  base : attributeBase o m X.env (eval o X.env) = eval o X.env
  few : ((backTo cpos (starEach [e, f] X.env)).all (fun x => !x.1) && (backToKw cpos (keywordEach [] X.env)).all (fun x => x.1.isSome)
    && decide (([e, f] : List Expr).length + ([] : List Keyword).length + (if ([] : List Keyword).isEmpty then 0 else 1) < 30)) = true
  line : (apos.endLine == cpos.line) = true
  trees : backTo cpos (starEach [e, f] X.env) = [(false, eval e X.env), (false, eval f X.env)]
def IsD (H : Hp) (a : Addr) : Prop := (∃ kvs, Rd H a (.dK kvs)) ∨ ∃ kvs, Rd H a (.dT kvs)
theorem isD_at {X : Cx} {pins : List (Addr × Obj)} {σ : St} {H : Hp} {s : Shared} {a : Addr} (I : Inv X pins σ H s) (d : IsD H a) :
    s.TypeIs (.ref a) "dict" ∧ (∀ b, Value.ref a = .ref b → ∃ ob, s.heap.get? b = some ob ∧ ob.dict = none) ∧ (a == sysModules) = false := by
  rcases d with ⟨kvs, e⟩ | ⟨kvs, e⟩
  · obtain ⟨_, hd, vs, _, dd⟩ := dk_rd I.hok e
    refine ⟨dd.typeIs, fun b q => ?_, hd⟩
    cases q
    obtain ⟨ob, _, _, h1, h2, _⟩ := dd
    exact ⟨ob, h1, h2.2.1⟩
  · obtain ⟨_, hd, xs, _, dd⟩ := dt_rd I.hok e
    refine ⟨dd.typeIs, fun b q => ?_, hd⟩
    cases q
    obtain ⟨ob, _, _, h1, h2, _⟩ := dd
    exact ⟨ob, h1, h2.2.1⟩
section
variable {X : Cx} {pins : List (Addr × Obj)} {σ : St} {H : Hp} {s : Shared} {a : Addr} {y d : V} {u r : Value} {o : Option V} {A : Around} {E : Value → Shared → Prop}
theorem d_get2 {Q : Value → Shared → Prop} (hu : A.units + 1 < cLine) (I : Inv X pins σ H s) (g : DGet H a y o) (ry : RelV y u) (rd : RelV d r) (h : ∀ w' s', Inv X pins σ H s' → RelV (o.getD d) w' → Q w' s') :
    wpAny (model X.prog X.w) A (call (.builtin "dict.get") [.ref a, u, r]) Q E s := by
  rcases g with ⟨kvs, k, e, ey, l⟩ | ⟨kvs, k, b, e, ey, eb, l⟩
  · subst ey
    obtain ⟨z, hd, vs, rel, dd⟩ := dk_rd I.hok e
    refine call_meetsIn PySem.F.slot_dict_get dd.typeIs PySem.F.entry_dict_get (PySem.F.args_dict_get_3 _ _ _) (meets_dict_get_default (mixKind X.prog X.w) a (kV_is ry) hd r) ⟨_, dd.mapOf, h _ _ (I.tok _) ?_⟩
    rw [l]
    exact (rel.val k).getD rd
  · subst ey
    cases (show u = Value.ref b from ry)
    obtain ⟨z, hd, xs, rel, dd⟩ := dt_rd I.hok e
    refine call_meetsIn PySem.F.slot_dict_get dd.typeIs PySem.F.entry_dict_get (PySem.F.args_dict_get_3 _ _ _) (meetsH_dict_get_default (tupleKind (mixKind X.prog X.w)) a b hd r) ⟨tupleKind_room_in1 hu, k, xs, key_of I.hok eb, dd, h _ _ (I.tok _) ?_⟩
    rw [l]
    exact (rel.val k).getD rd
end
section
variable {X : Cx} {o e f : Expr} {apos cpos : Pos} {td ty tx : TE}
end
section
variable {X : Cx} {pins : List (Addr × Obj)} {σ : St} {H : Hp} {s : Shared} {a : Addr} {kvs : List (Key × V)} {A : Around} {E : Value → Shared → Prop}
end
section
variable {X : Cx} {pins : List (Addr × Obj)} {σ : St} {H : Hp} {s : Shared} {a : Addr} {y : V} {u : Value} {A : Around} {E : Value → Shared → Prop}
end
end L2
namespace Att
open PySem PySem.W PySem.Calls PyProof.Rows
section
variable {prog : Program} {w : World} {A : Around} {E : Value → Shared → Prop} {s : Shared} {K : Frag}
end
end Att
namespace L2
open PySem PySem.Spec PyProof.Rows
end L2
namespace L2
open PySem PySem.Spec PyProof.Rows
end L2
namespace L2
open PySem PySem.Spec PyProof.Rows
section
variable {P : Program} {w : World} {K : PySem.W.Frag} {mg : Str → Option Value} {base : Heap}
end
section
variable {X : Cx}
theorem call_lenD : CallR X (.builtin "len") (fun xs H Q => ∃ a kvs, xs = [V.ref a] ∧ H a = some (.dK kvs) ∧ Q (.int kvs.length) H) := by
  intro pins s σ H xs us Q I r h
  obtain ⟨a, kvs, rfl, ha, q⟩ := h
  obtain ⟨u, rfl, ru⟩ := vals1 r
  cases ru
  exact d_len I (.inl ha) fun t s' I' => ⟨.int kvs.length, H, I', ⟨t, rfl⟩, q⟩
end
section
variable {κ : Type} [DecidableEq κ]
end
end L2
namespace L2
open PySem PySem.Spec PyProof.Rows
section
variable {prog : Program} {w : World} {A : Around} {E : Value → Shared → Prop} {s : Shared}
abbrev IsEnumG (h : Heap) (e it : Addr) (i : Int) (gv old : Value) : Prop :=
  h.get? e = some { cls := .type "enumerate", dict := none, data := .fields #[.none, .bool false, .ref it, rawInt i, gv, old], slots := #[] }
end
end L2
namespace L2
open PySem PySem.Spec PyProof.Rows
section
variable {X : Cx} {pins : List (Addr × Obj)} {σ : L2.St} {H : Hp} {s : Shared} {h' : Heap}
end
section
variable {X : Cx} {pins : List (Addr × Obj)} {σ : L2.St} {H : Hp} {s : Shared} {h' : Heap}
end
section
variable {P : Program} {w : World} {K : PySem.W.Frag} {es : List Expr} {n : Nat} {pos : Pos}
structure Src (K : PySem.W.Frag) (Sq : Hp → List V → Prop) (a it : Addr) (At : Nat → Heap → Prop) : Prop where
  get : ∀ (X : Cx) (pins : List (Addr × Obj)) (σ : L2.St) (H : Hp) (s : Shared) (xs : List V), X.K = K → Inv X pins σ H s → Sq H xs → ∃ its : List Value, Vals xs its ∧ (∃ o, s.heap.get? a = some o ∧ o.cls ≠ .type "enumerate") ∧
    ∀ (i : Nat) (A : Around), A.handled = none → At i s.heap → ∃ St : Nat → Heap → Prop, Draws X.prog X.w A it [it, a] its.length (fun i v => its[i]? = some v) St ∧ St i s.heap ∧ (∀ j h, St j h → At j h) ∧
      (its.length ≤ i → ∀ (Q : Value → Shared → Prop) (E : Value → Shared → Prop), (∀ h' e, Heap.ExtBut it s.heap h' → (∃ o, h'.get? e = some o ∧ o.cls = .type "StopIteration") → E (.ref e) { s with heap := h' }) → wpAny (model X.prog X.w) A (Builtin.SmallTypes.nextOf (.ref it)) Q E s)
  inj : ∀ (X : Cx) (pins : List (Addr × Obj)) (σ : L2.St) (H : Hp) (s : Shared) (xs ys : List V), X.K = K → Inv X pins σ H s → Sq H xs → Sq H ys → xs = ys
  keep : ∀ i h h', At i h → (∀ o, h.get? it = some o → h'.get? it = some o) → At i h'
  obj : ∀ i h, At i h → ∃ o, h.get? it = some o ∧ (∀ v, o.data ≠ .cell v) ∧ o.cls ≠ .type "enumerate"
end
end L2
namespace L2
open PySem PySem.Spec PyProof.Rows
section
variable {M : Model} {A : Around} {E : Value → Shared → Prop} {s : Shared} {env : Env}
end
section
variable {X : Cx}
end
end L2
namespace L2
open PySem PySem.Spec PyProof.Rows
structure XCls (K : PySem.W.Frag) (C : Addr) (name : Str) : Prop where
  cd : ∃ cd, PySem.W.clsIn K C = some cd ∧ cd.hasDict = true ∧ cd.mro.isEmpty = false ∧ cd.mro.contains (.type "object") = true ∧ cd.mro.contains (.type "BaseException") = true ∧ (∀ self, refuseLoop self "__setattr__" cd.mro = pure ())
  sa : PySem.W.findIn K (.ref C) "__setattr__" = some (some (.builtin "object.__setattr__"))
  ga : PySem.W.findIn K (.ref C) "__getattribute__" = some (some (.builtin "BaseException.__getattribute__"))
  no : PySem.W.findIn K (.ref C) name = some none
section
variable {prog : Program} {w : World} {A : Around} {E : Value → Shared → Prop} {s : Shared} {K : PySem.W.Frag} {x C : Addr} {name : Str} {v : Value}
end
end L2
namespace L2
open PySem
section
variable {prog : Program} {w : World} {A : Around} {E : Value → Shared → Prop} {h : Heap} {g : Array GenState} {d : Drawn} {t : Nat} {os : OsState}
variable {nm q : Str} {C N : Addr} {bs bm bmB : List Value} {hdct : Bool} {sn : List Str} {sub : List Value} {ab : Bool} {col : Option Bool} {dd : Option Addr} {k0 k1 k2 k3 k5 : Option Value} {B newId initId : String}
structure XTail (B : String) (bm : List Value) : Prop where
  has : bm.contains (.type B) = true
  noA : bm.contains (.type "AttributeError") = false
  noN : bm.contains (.type "NameError") = false
end
end L2
namespace L2
open PySem
structure Exc (h : Heap) (e C : Addr) (dx T : Option Addr) (fl : Value) : Prop where
  at_ : ∃ vs, h.get? e = some { cls := .ref C, dict := dx, data := .fields vs } ∧ (match T with
    | none => vs[1]? = some .none
    | some T => vs[1]? = some (.ref T) ∧ T ≠ e ∧ ∃ oT ts, h.get? T = some oT ∧ oT.data = .fields ts ∧ ts[3]? = some fl)
def XKept (fs : List Addr) (e : Addr) (T : Option Addr) (h h' : Heap) : Prop :=
  (h.objs.size ≤ h'.objs.size ∧ ∀ b o, h.get? b = some o → ∃ o', h'.get? b = some o') ∧ (∀ b o, b ≠ e → some b ≠ T → b ∉ fs → h.get? b = some o → h'.get? b = some o) ∧ (∀ b o, b ≠ e → some b ≠ T → h.get? b = some o → ∃ sl, h'.get? b = some { o with slots := sl })
theorem XKept.refl {fs : List Addr} {e : Addr} {T : Option Addr} {h : Heap} : XKept fs e T h h := ⟨⟨Nat.le_refl _, fun b o q => ⟨o, q⟩⟩, fun _ _ _ _ _ x => x, fun _ o _ _ x => ⟨o.slots, x⟩⟩
theorem XKept.trans {fs : List Addr} {e : Addr} {T T' : Option Addr} {h h1 h2 : Heap} (x : XKept fs e T h h1) (y : XKept fs e T' h1 h2) (hT : T' = T ∨ ∃ t, T' = some t ∧ h.objs.size ≤ t) : XKept fs e T h h2 := by
  have ne : ∀ b o, some b ≠ T → h.get? b = some o → some b ≠ T' := fun b o n q z => by
    rcases hT with r | ⟨t, r, q2⟩
    · exact n (z.trans r)
    · rw [r] at z; cases z
      exact absurd (Nat.lt_of_lt_of_le (Heap.lt_size q) q2) (Nat.lt_irrefl _)
  refine ⟨⟨Nat.le_trans x.1.1 y.1.1, fun b o q => let ⟨o1, q1⟩ := x.1.2 b o q; y.1.2 b o1 q1⟩, fun b o n1 n2 n3 q => y.2.1 b o n1 (ne b o n2 q) n3 (x.2.1 b o n1 n2 n3 q), fun b o n1 n2 q => ?_⟩
  obtain ⟨sl, e1⟩ := x.2.2 b o n1 n2 q
  obtain ⟨sl2, e2⟩ := y.2.2 b _ n1 (ne b o n2 q) e1
  exact ⟨sl2, e2⟩
section
variable {M : Model} {A : Around} {E : Value → Shared → Prop} {s : Shared}
theorem x_entry {base : Heap} {env : Env} {outer : List Env} {L e C : Addr} {dx : Option Addr} {vs : Array Value} {head : Value} {hadNext : Bool} {Q : Unit → Shared → Prop}
    (hfr : A.frames = some (env :: outer)) (hl : s.heap.FunFrames base (env :: outer)) (hf : env.frame = some L)
    (he : s.heap.get? e = some { cls := .ref C, dict := dx, data := .fields vs }) (hsz : 1 < vs.size)
    (h : ∀ h' T, s.heap.objs.size ≤ T → XKept ((env :: outer).filterMap (·.frame)) e (some T) s.heap h' → Exc h' e C dx (some T) (rawInt L) → Q () { s with heap := h' }) :
    wpAny M A (do let a ← frameOf env; let pl ← entryPlaceOf L hadNext; let b ← EntryCells.newEntry head a .none (rawInt L) .none pl; setField (.ref e) 1 b) Q E s := by
  have hene : e ∉ (env :: outer).filterMap (·.frame) := fun hm => by
    obtain ⟨_, o, ho, hnf⟩ := hl.mem hm
    rw [he] at ho; injection ho with ho; subst ho; exact hnf vs rfl
  refine wpAny_bind (wpAny_frameOf_fun hfr hl hf fun h₁ hs₁ => ?_)
  refine wpAny_bind (wpAny_entryPlaceOf fun pl hpl => ?_)
  unfold EntryCells.newEntry newFields
  refine wpAny_bind (wpAny_newObj_type ?_ (hpl.sizeOk5 _ _ _ _ _))
  have he₁ : h₁.get? e = some { cls := .ref C, dict := dx, data := .fields vs } := (hs₁.2.1 e hene).trans he
  have he₂ := Heap.get?_push_of_some (h := h₁) { cls := .type "traceback", dict := none, data := .fields ([head, .ref L, .none, rawInt L, .none] ++ (if pl.isEmpty then List.replicate 6 Value.none else pl)).toArray } he₁
  refine wpAny_setField he₂ rfl hsz (h _ h₁.objs.size (by rw [hs₁.1]; exact Nat.le_refl _) ?_ ?_)
  · refine ⟨⟨?_, fun b o q => ?_⟩, fun b o n1 n2 n3 q => ?_, fun b o n1 n2 q => ?_⟩
    · rw [Heap.size_after_update, Heap.size_push, hs₁.1]; omega
    · by_cases n1 : b = e
      · subst n1
        exact ⟨_, Heap.get?_update_self _ he₂ (Obj.isFreed_of_fields (Obj.data_mapFields rfl _))⟩
      · obtain ⟨sl, q1⟩ := hs₁.2.2 b o q
        exact ⟨_, (Heap.get?_update_other _ _ (Ne.symm n1)).trans (Heap.get?_push_of_some _ q1)⟩
    · rw [Heap.get?_update_other _ _ (Ne.symm n1)]
      exact Heap.get?_push_of_some _ ((hs₁.2.1 b n3).trans q)
    · obtain ⟨sl, q1⟩ := hs₁.2.2 b o q
      refine ⟨sl, ?_⟩
      rw [Heap.get?_update_other _ _ (Ne.symm n1)]
      exact Heap.get?_push_of_some _ q1
  · have hTe : h₁.objs.size ≠ e := Nat.ne_of_gt (Heap.lt_size he₁)
    have hd₃ := Obj.data_mapFields (o := { cls := .ref C, dict := dx, data := .fields vs }) rfl (·.setIfInBounds 1 (Value.ref h₁.objs.size))
    have he₃ := Heap.get?_update_self (Obj.mapFields (·.setIfInBounds 1 (Value.ref h₁.objs.size))) he₂ (Obj.isFreed_of_fields hd₃)
    have hT₃ := (Heap.get?_update_other (h₁.push { cls := .type "traceback", dict := none, data := .fields ([head, .ref L, .none, rawInt L, .none] ++ (if pl.isEmpty then List.replicate 6 Value.none else pl)).toArray })
      (Obj.mapFields (·.setIfInBounds 1 (Value.ref h₁.objs.size))) (Ne.symm hTe)).trans (Heap.get?_push_size h₁ rfl)
    refine ⟨⟨_, he₃, by simp [hsz], hTe, _, _, hT₃, rfl, by first | (simp; done) | (rcases hpl with rfl | ⟨_, _, _, _, _, _, _, rfl⟩ <;> simp)⟩⟩
theorem XKept.upd {fs : List Addr} {e T : Addr} {h : Heap} {f : Obj → Obj} {oT : Obj} (ho : h.get? T = some oT) (hfr : (f oT).isFreed = false) : XKept fs e (some T) h (h.update T f) := by
  have k : ∀ b o, some b ≠ some T → h.get? b = some o → (h.update T f).get? b = some o := fun b o n q => by
    rw [Heap.get?_update_other _ _ (fun z => n (by rw [z]))]; exact q
  refine ⟨⟨by rw [Heap.size_after_update]; exact Nat.le_refl _, fun b o q => ?_⟩, fun b o _ n2 _ q => k b o n2 q, fun b o _ n2 q => ⟨o.slots, k b o n2 q⟩⟩
  by_cases z : b = T
  · subst z; exact ⟨_, Heap.get?_update_self _ ho hfr⟩
  · exact ⟨o, k b o (fun y => z (Option.some.inj y)) q⟩
theorem x_flight {e C : Addr} {dx T : Option Addr} {fl : Value} {fr : Option Addr} {Q : Unit → Shared → Prop} (x : Exc s.heap e C dx T fl)
    (h : ∀ h', XKept [] e T s.heap h' → Exc h' e C dx T (fr.elim .none fun f => rawInt f) → Q () { s with heap := h' }) : wpAny M A (setFlight (.ref e) fr) Q E s := by
  obtain ⟨vs, he, hT⟩ := x.at_
  unfold setFlight
  cases T with
  | none =>
    refine wpAny_bind (wpAny_field he rfl hT ?_)
    rw [if_neg (by decide)]
    exact wpAny_pure (h s.heap .refl ⟨vs, he, hT⟩)
  | some T =>
    obtain ⟨h1, hne, oT, ts, hoT, hd, h3⟩ := hT
    refine wpAny_bind (wpAny_field he rfl h1 ?_)
    rw [if_pos (show (Value.ref T != Value.none) = true from by simp)]
    have hsz3 : 3 < ts.size := (Array.getElem?_eq_some_iff.mp h3).1
    refine wpAny_setField hoT hd hsz3 (h _ (.upd hoT (Obj.isFreed_of_fields (Obj.data_mapFields hd _))) ⟨vs, ?_, h1, hne, _, _, Heap.get?_update_self _ hoT (Obj.isFreed_of_fields (Obj.data_mapFields hd _)), Obj.data_mapFields hd _, by simp [hsz3]⟩)
    rw [Heap.get?_update_other _ _ hne]; exact he
theorem x_note {base : Heap} {env : Env} {outer : List Env} {L e C : Addr} {dx T : Option Addr} {fl : Value} {Q : Unit → Shared → Prop}
    (hfr : A.frames = some (env :: outer)) (hl : s.heap.FunFrames base (env :: outer)) (hf : env.frame = some L) (x : Exc s.heap e C dx T fl) (hfl : fl = .none ∨ fl = rawInt L)
    (h : ∀ h' T', (T = some T' ∨ s.heap.objs.size ≤ T') → XKept ((env :: outer).filterMap (·.frame)) e T s.heap h' → Exc h' e C dx (some T') (rawInt L) → Q () { s with heap := h' }) : wpAny M A (noteFrame (.ref e) env) Q E s := by
  obtain ⟨vs, he, hT⟩ := x.at_
  unfold noteFrame
  simp only [hf]
  cases T with
  | none =>
    refine wpAny_bind (wpAny_field he rfl hT ?_)
    rw [if_neg (by decide)]
    refine x_entry hfr hl hf he (Array.getElem?_eq_some_iff.mp hT).1 fun h' T hs k x' => h h' T (.inr hs) ?_ x'
    exact ⟨k.1, fun b o n1 _ n3 q => k.2.1 b o n1 (fun z => by cases z; exact absurd (Nat.lt_of_lt_of_le (Heap.lt_size q) hs) (Nat.lt_irrefl _)) n3 q, fun b o n1 _ q => k.2.2 b o n1 (fun z => by cases z; exact absurd (Nat.lt_of_lt_of_le (Heap.lt_size q) hs) (Nat.lt_irrefl _)) q⟩
  | some T =>
    obtain ⟨h1, hne, oT, ts, hoT, hd, h3⟩ := hT
    refine wpAny_bind (wpAny_field he rfl h1 ?_)
    rw [if_pos (show (Value.ref T != Value.none) = true from by simp)]
    refine wpAny_bind (wpAny_field hoT hd h3 ?_)
    rcases hfl with rfl | rfl
    · rw [if_neg (show ¬ ((Value.none == rawInt L) = true) from by simp [rawInt])]
      have hsz3 : 3 < ts.size := (Array.getElem?_eq_some_iff.mp h3).1
      refine wpAny_bind (wpAny_setField hoT hd hsz3 ?_)
      have other : ∀ b, b ≠ T → (s.heap.update T (Obj.mapFields (·.setIfInBounds 3 Value.none))).get? b = s.heap.get? b := fun b hb => Heap.get?_update_other _ _ (Ne.symm hb)
      have noRecord : ∀ b o, s.heap.get? b = some o → (∀ vs, o.data ≠ .fields vs) → b ≠ T := fun b o hb hnf q => by
        rw [q, hoT] at hb; injection hb with hb; subst hb; exact hnf ts hd
      refine x_entry hfr (hl.of_keeps fun b o hb hnf => ⟨o, (other b (noRecord b o hb hnf)).trans hb, rfl⟩) hf ((other e (Ne.symm hne)).trans he) (Array.getElem?_eq_some_iff.mp h1).1 fun h' T' hs k x' => ?_
      rw [Heap.size_after_update] at hs
      exact h h' T' (.inr hs) ((XKept.upd hoT (Obj.isFreed_of_fields (Obj.data_mapFields hd _))).trans k (.inr ⟨T', rfl, hs⟩)) x'
    · rw [if_pos (show (rawInt L == rawInt L) = true from by simp)]
      exact wpAny_pure (h s.heap T (.inl rfl) .refl x)
theorem x_leave {base : Heap} {env : Env} {outer : List Env} {L e C : Addr} {dx T : Option Addr} {fl : Value} {Q : Unit → Shared → Prop}
    (hfr : A.frames = some (env :: outer)) (hl : s.heap.FunFrames base (env :: outer)) (hf : env.frame = some L) (x : Exc s.heap e C dx T fl) (hfl : fl = .none ∨ fl = rawInt L)
    (h : ∀ h' T', (T = some T' ∨ s.heap.objs.size ≤ T') → XKept ((env :: outer).filterMap (·.frame)) e T s.heap h' → Exc h' e C dx (some T') .none → Q () { s with heap := h' }) : wpAny M A (leaving env (.ref e)) Q E s := by
  unfold leaving
  refine wpAny_bind (x_note hfr hl hf x hfl fun h' T' hT k x' => ?_)
  refine x_flight (fr := none) (s := { s with heap := h' }) x' fun h2 k2 x2 => h h2 T' hT (k.trans (T' := some T') ⟨k2.1, fun b o n1 n2 _ q => k2.2.1 b o n1 n2 (by simp) q, k2.2.2⟩ ?_) x2
  rcases hT with r | r
  · exact .inl r.symm
  · exact .inr ⟨T', rfl, r⟩
end
end L2
namespace L2
open PySem PySem.Spec PyProof.Rows
abbrev xO (a C : Addr) (dx : Option Addr) : HO := .ext fun h => Exc h a C dx none .none
section
variable {X : Cx} {pins : List (Addr × Obj)} {σ : St} {H : Hp} {s : Shared} {a C : Addr} {f : Str} {A : Around} {E : Value → Shared → Prop}
end
end L2
namespace L2
open PySem PySem.Spec PyProof.Rows
section
variable {X : Cx} {o value : Expr} {ta tv : TE} {f : Str} {pos pos' : Pos}
end
section
variable {P : Program} {w : World} {K : PySem.W.Frag} {mg : Str → Option Value} {base : Heap}
end
structure XMk (K : PySem.W.Frag) (C f : Addr) : Prop where
  obj : ∃ (nm q : Str) (N : Addr) (bs bm : List Value) (hdct : Bool) (sn : List Str) (sub : List Value) (ab : Bool) (col : Option Bool) (dd : Option Addr) (k0 k1 k2 k3 k5 : Option Value),
    K.lookup C = some (excClassObj nm q C N bs bm hdct sn sub ab col dd k0 k1 k2 k3 k5 "ValueError.__new__") ∧ XTail "ValueError" bm ∧ bm.contains (.type "BaseException") = true
  init : PySem.W.findIn K (.ref C) "__init__" = some (some (.ref f))
  fn : PySem.W.isFn K (.ref f) = true
  kp : PySem.W.keepIn K (.ref C) = true
section
variable {X : Cx} {k : Nat} {f C : Addr} {fd : FuncData} {ps : List Str} {g : Str}
end
end L2
namespace L2
open PySem PySem.Spec PyProof.Rows
def drop (H : Hp) (a : Addr) : Hp := fun b => if b = a then none else H b
section
variable {X : Cx} {pins : List (Addr × Obj)} {σ : St} {H : Hp} {s : Shared} {a : Addr} {φ : Heap → Prop}
end
def CXx (P : Program) (w : World) : CXT := fun outer H s E ev s' => ∃ e C dx T H', ev = Value.ref e ∧ s'.os = s.os ∧ AllBare s'.gens ∧ Un (frs outer) [] H H' s.heap s'.heap ∧ HOk P w H' s'.heap ∧ Exc s'.heap e C (some dx) (some T) .none ∧
  s.heap.objs.size ≤ e ∧ s.heap.objs.size ≤ T ∧ H' e = none ∧ H' T = none ∧ E (.ref C) (some dx) H'
abbrev XWish := Addr → Addr → St → Hp → Prop
structure XFree (X : Cx) (pins : List (Addr × Obj)) (H : Hp) (a : Addr) : Prop where
  no : H a = none
  new : X.s₀.heap.objs.size ≤ a
  pin : ∀ p ∈ X.pn ++ pins, p.1 ≠ a
def XBody (X : Cx) (W : XWish) : Value → Shared → Prop := fun ev s => ∃ e C dx T fl pins σ H, ev = Value.ref e ∧ Inv X pins σ H s ∧ Exc s.heap e C (some dx) T fl ∧ (fl = .none ∨ fl = rawInt X.env.locals) ∧ XFree X pins H e ∧ (∀ t, T = some t → XFree X pins H t) ∧ W C dx σ H
section
variable {X : Cx} {pins : List (Addr × Obj)} {σ : St} {H : Hp} {s : Shared}
theorem XBody.of_call {W : XWish} {E : XK} {ev : Value} {s' : Shared} (I : Inv X pins σ H s) (h : CXx X.prog X.w X.stack H s E ev s') (hE : ∀ C dx H', E (.ref C) (some dx) H' → W C dx σ H') : XBody X W ev s' := by
  obtain ⟨e, C, dx, T, H', rfl, os, bare, un, hok, x, ne, nT, fe, fT, hq⟩ := h
  have old : ∀ a, s.heap.objs.size ≤ a → ∀ p ∈ X.pn ++ pins, p.1 ≠ a := fun a ha p hp z => by
    have := Heap.lt_size (I.pin p hp).1
    rw [z] at this
    exact absurd (Nat.lt_of_lt_of_le this ha) (Nat.lt_irrefl _)
  exact ⟨e, C, dx, some T, .none, pins, σ, H', rfl, I.call' os un hok bare (fun b z => absurd z (by simp)), x, .inl rfl, ⟨fe, Nat.le_trans I.sz ne, old e ne⟩, fun t z => by cases z; exact ⟨fT, Nat.le_trans I.sz nT, old T nT⟩, hE C dx H' hq⟩
theorem hok_xkept {P : Program} {w : World} {fs : List Addr} {e : Addr} {T : Option Addr} {h h' : Heap} (ok : HOk P w H h) (k : XKept fs e T h h') (he : H e = none) (hT : ∀ t, T = some t → H t = none) (hf : ∀ b ∈ fs, H b = none) : HOk P w H h' := by
  have kp : ∀ b u o, H b = some o → h.get? b = some u → h'.get? b = some u := fun b u o q z =>
    k.2.1 b u (fun y => by subst y; rw [he] at q; cases q) (fun y => by rw [hT b y.symm] at q; cases q) (fun y => by rw [hf b y] at q; cases q) z
  intro b o q
  refine (ok b o q).stay (fun b' u hb z => ?_) (fun _ z => z) fun _ _ z => z
  rcases hb with rfl | hb
  · exact kp _ u o q z
  · exact kp _ u _ hb z
end
theorem XBody.leave {P : Program} {w : World} {K : PySem.W.Frag} {mg : Str → Option Value} {base : Heap} {N : List Str} {qual : Str} {scope : Scope} {f : Addr} {cd : Value} {A : Around} {outer : List Env} {s : Shared} {H : Hp} {E : XK} {W : XWish} {ev : Value} {s' : Shared}
    (h : XBody (cxOf (CXx P w) P w K mg base N qual scope f cd A outer s H E) W ev s') (hE : ∀ C dx σ H', W C dx σ H' → E (.ref C) (some dx) H') :
    (cxOf (CXx P w) P w K mg base N qual scope f cd A outer s H E).xe ev s' := by
  obtain ⟨e, C, dx, T, fl, pins, σ, H', rfl, I, x, hfl, fe, fT, hW⟩ := h
  show wpAny _ _ (leaving _ (.ref e)) _ _ s'
  refine x_leave I.ok.frames I.stack rfl x hfl fun h2 T' hT k x' => ?_
  have hTn : ∀ t, T = some t → H' t = none := fun t z => (fT t z).no
  have nT : s.heap.objs.size ≤ T' := by
    rcases hT with r | r
    · exact (fT T' r).new
    · exact Nat.le_trans I.sz r
  have fT' : H' T' = none := by
    rcases hT with r | r
    · exact hTn T' r
    · exact I.hok.fresh r
  have ok2 := hok_xkept I.hok k fe.no hTn I.stkFree
  have ne : ∀ b o, s.heap.get? b = some o → b ≠ e ∧ some b ≠ T := fun b o q => ⟨fun z => absurd (Nat.lt_of_lt_of_le (Heap.lt_size q) (z ▸ fe.new)) (Nat.lt_irrefl _), fun z => absurd (Nat.lt_of_lt_of_le (Heap.lt_size q) (fT b z.symm).new) (Nat.lt_irrefl _)⟩
  have nL : ∀ b o, s.heap.get? b = some o → b ≠ s.heap.objs.size := fun b o q => Nat.ne_of_lt (Heap.lt_size q)
  refine ⟨e, C, dx, T', H', rfl, I.os, I.bare, ⟨fun b o q n hb _ => ?_, fun b o q n hb _ => ?_, fun b o q n _ => I.base.free b o q n (by simp [cxOf]), fun b o q _ => ?_, I.base.tups, I.base.frzs, I.base.tbls⟩, ok2, x', fe.new, nT, fe.no, fT', hE C dx σ H' hW⟩
  · obtain ⟨n1, n2⟩ := ne b o q
    refine k.2.1 b o n1 n2 (fun z => ?_) (I.base.keep b o q n hb (by simp [cxOf]))
    rcases List.mem_cons.mp (I.stkSub b z) with y | y
    · exact nL b o q y
    · exact hb y
  · obtain ⟨n1, n2⟩ := ne b o q
    obtain ⟨sl, q1⟩ := I.base.slot b o q n hb (by simp [cxOf])
    obtain ⟨sl2, q2⟩ := k.2.2 b _ n1 n2 q1
    exact ⟨sl2, q2⟩
  · obtain ⟨n1, n2⟩ := ne b o q
    obtain ⟨o1, q1⟩ := I.base.there b o q (by simp [cxOf])
    obtain ⟨sl2, q2⟩ := k.2.2 b _ n1 n2 q1
    exact ⟨_, q2⟩
end L2
namespace L2
section
open PySem
variable {M : Model} {A : Around} {E : Value → Shared → Prop} {env : Env}
variable {nm q : Str} {C N : Addr} {bs bm : List Value} {hdct : Bool} {sn : List Str} {sub : List Value} {ab : Bool} {col : Option Bool} {dd : Option Addr} {k0 k1 k2 k3 k5 : Option Value} {newId : String}
end
section
open PySem PySem.Spec PyProof.Rows
variable {X : Cx} {k : Nat} {f C : Addr} {fd : FuncData} {ps : List Str} {g : Str} {x : Str} {np cpos pos : Pos} {arg : Expr} {ta : TA} {W : XWish}
end
end L2
namespace L2
open PySem PySem.Spec PyProof.Rows
section
variable {X : Cx} {pins : List (Addr × Obj)} {σ : St} {H : Hp} {s : Shared} {e C : Addr} {dx T : Option Addr} {fl : Value} {h' : Heap} {W : XWish}
theorem Inv.rec_ne {a : Addr} {o : Obj} {vs : Array Value} (I : Inv X pins σ H s) (h : s.heap.get? a = some o) (d : o.data = .fields vs) : a ≠ X.env.locals ∧ ∀ x c, X.env.cells.lookup x = some c → c ≠ a := by
  refine ⟨fun z => ?_, fun x c hc z => ?_⟩
  · obtain ⟨m, ⟨o', es, ep, ho, hd, _⟩, _⟩ := I.loc
    subst z
    rw [ho] at h; cases h; rw [hd] at d; cases d
  · obtain ⟨v, o', ho, hd⟩ := I.cell x c hc
    subst z
    rw [ho] at h; cases h; rw [hd] at d; cases d
theorem Inv.xkept (I : Inv X pins σ H s) (x : Exc s.heap e C dx T fl) (fe : XFree X pins H e) (fT : ∀ t, T = some t → XFree X pins H t) (k : XKept (frs X.stack) e T s.heap h') (hE : ∃ o, h'.get? e = some o) (hTt : ∀ t, T = some t → ∃ o, h'.get? t = some o) :
    Inv X pins σ H { s with heap := h' } := by
  obtain ⟨vs, he, hT⟩ := x.at_
  have ok2 := hok_xkept I.hok k fe.no (fun t z => (fT t z).no) I.stkFree
  refine I.call (t' := s.toks) (g' := s.gens) (d' := s.drawn) (ch := e :: T.toList) ⟨fun b o q n hb hc => ?_, fun b o q n hb hc => ?_, fun b o q n _ => n, fun b o q hc => ?_, fun _ _ q => q, fun _ _ _ q => q, fun b ps q => ⟨#[], by rw [q]; simp⟩⟩ ok2 I.bare fun b hb => ?_
  · simp at hc
    exact k.2.1 b o hc.1 (fun z => hc.2 z.symm) hb q
  · simp at hc
    exact k.2.2 b o hc.1 (fun z => hc.2 z.symm) q
  · simp at hc
    obtain ⟨sl, z⟩ := k.2.2 b o hc.1 (fun z => hc.2 z.symm) q
    exact ⟨_, z⟩
  · simp at hb
    rcases hb with rfl | hb
    · exact ⟨.inr fe.new, (I.rec_ne he rfl).1, (I.rec_ne he rfl).2, fe.pin⟩
    · subst hb
      obtain ⟨_, _, oT, ts, hoT, hd, _⟩ := hT
      exact ⟨.inr (fT b rfl).new, (I.rec_ne hoT hd).1, (I.rec_ne hoT hd).2, (fT b rfl).pin⟩
theorem XKept.mono {fs fs' : List Addr} {h : Heap} (k : XKept fs e T h h') (hs : ∀ b ∈ fs, b ∈ fs') : XKept fs' e T h h' := ⟨k.1, fun b o n1 n2 n3 q => k.2.1 b o n1 n2 (fun z => n3 (hs b z)) q, k.2.2⟩
theorem Exc.here (x : Exc h' e C dx T fl) : (∃ o, h'.get? e = some o) ∧ ∀ t, T = some t → ∃ o, h'.get? t = some o := by
  obtain ⟨vs, he, hT⟩ := x.at_
  refine ⟨⟨_, he⟩, fun t z => ?_⟩
  subst z
  obtain ⟨_, _, oT, _, hoT, _⟩ := hT
  exact ⟨oT, hoT⟩
theorem XBody.passesOwn (hst : X.stack = X.env :: X.outer) (hf : X.env.frame = some X.env.locals) {A : Around} (hA : A.frames = some X.stack) : ∀ ev s', XBody X W ev s' → wpAny (model X.prog X.w) A (noteFrame ev X.env) (fun _ s2 => cameBackBy (model X.prog X.w) X.A X.env (XBody X W) ev s2) (cameBackBy (model X.prog X.w) X.A X.env (XBody X W)) s' := by
  rintro ev s' ⟨e, C, dx, T, fl, pins, σ, H, rfl, I, x, hfl, fe, fT, hW⟩
  have hstk := I.stack
  rw [hst] at hstk
  refine x_note (by rw [hA, hst]) hstk hf x hfl fun h1 T1 hT1 k1 x1 => ?_
  have fT1 : XFree X pins H T1 := by
    rcases hT1 with r | r
    · exact fT T1 r
    · refine ⟨I.hok.fresh r, Nat.le_trans I.sz r, fun p hp z => ?_⟩
      have := Heap.lt_size (I.pin p hp).1
      rw [z] at this
      exact absurd (Nat.lt_of_lt_of_le this r) (Nat.lt_irrefl _)
  have hTt : ∀ t, T = some t → ∃ o, h1.get? t = some o := fun t z => by
    obtain ⟨o, q⟩ := x.here.2 t z
    exact k1.1.2 t o q
  have I1 := I.xkept x fe fT (k1.mono (by rw [hst]; exact fun b z => z)) x1.here.1 hTt
  unfold cameBackBy
  obtain ⟨vs, he, h2, _⟩ := x1.at_
  refine wpAny_bind (wpAny_field he rfl h2 ?_)
  rw [if_neg (by simp)]
  refine x_flight (s := { s' with heap := h1 }) x1 fun h2 k2 x2 => ⟨e, C, dx, some T1, _, pins, σ, H, rfl, I1.xkept x1 fe (fun t z => by cases z; exact fT1) (k2.mono (by simp)) x2.here.1 x2.here.2, x2, .inr (by rw [hf]; rfl), fe, fun t z => by cases z; exact fT1, hW⟩
end
end L2
namespace L2
open PySem PySem.Spec PyProof.Rows
def Tk (X : Cx) (W : XWish) : Prop := ∀ ev s, XBody X W ev s → X.xe ev s
def EW (W : XWish) (σ : St) : XK := fun cv dxo H' => ∃ C dx, cv = Value.ref C ∧ dxo = some dx ∧ W C dx σ H'
theorem XBody.unwish {X : Cx} {W W' : XWish} {ev : Value} {s : Shared} (h : XBody (X.wish (XBody X W)) W' ev s) : XBody X W' ev s := by
  obtain ⟨e, C, dx, T, fl, pins, σ, H, ee, I, x, hfl, fe, fT, hW⟩ := h
  exact ⟨e, C, dx, T, fl, pins, σ, H, ee, I.unwish, x, hfl, ⟨fe.no, fe.new, fe.pin⟩, fun t z => ⟨(fT t z).no, (fT t z).new, (fT t z).pin⟩, hW⟩
theorem Tk.wish {X : Cx} {W : XWish} : Tk (X.wish (XBody X W)) W := fun _ _ h => h.unwish
theorem XBody.own {X : Cx} {W : XWish} (ok : X.Ok) (hst : X.stack = X.env :: X.outer) (hf : X.env.frame = some X.env.locals) : PassesOwn (model X.prog X.w) X.A X.env (XBody X W) :=
  fun ev s' h => XBody.passesOwn hst hf ok.frames ev s' h
section
variable {X : Cx} {k : Nat} {f C : Addr} {fd : FuncData} {ps : List Str} {sp : Sp} {dvs : List V} {ds : List Value} {W : XWish} {x m : Str} {p pos apos : Pos} {e o : Expr} {es : List Expr} {ta : TE} {t : TA}
theorem run_fnX {pins : List (Addr × Obj)} {σ : St} {H : Hp} {s : Shared} {Q : VK} {us : List Value} {vs : List V} (F : FnOk X.prog X.w X.K X.mg X.base (CXx X.prog X.w) k f fd ps sp) (hr : Room k X.A) (hb : Binds X.K fd ps ds) (hd : Vals dvs ds) (hx : Tk X W)
    (I : Inv X pins σ H s) (r : Vals vs us) (h : sp (vs ++ dvs) H Q (EW W σ)) : wpAny (model X.prog X.w) X.A (call (.ref f) us) (EP X pins σ Q) X.xe s := by
  have r2 := r.append hd
  have hl : (us ++ ds).length = ps.length := by rw [← r2.length]; exact F.len _ _ _ _ h
  refine wpAny_call (codeAny_mono (F.run X.A X.stack s H ⟨us, []⟩ (us ++ ds) (vs ++ dvs) Q _ hr I.env0 (hb s us I.kIn hl) r2 h) fun r s' hq => ?_)
  match r, hq with
  | .error e, hq => exact hx _ _ (XBody.of_call I hq fun C dx H' ⟨C', dx', e1, e2, w⟩ => by cases e1; cases e2; exact w)
  | .ok (.ret u), hq => exact I.after hq
def tCallX (sp : Sp) (dvs : List V) (W : XWish) (t : TA) : TE := fun σ H Q => t σ H fun vs H1 => sp (vs ++ dvs) H1 Q (EW W σ)
theorem pe_callX (F : FnOk X.prog X.w X.K X.mg X.base (CXx X.prog X.w) k f fd ps sp) (hr : Room k X.A) (hg : Gl X x) (hm : X.mg x = some (.ref f)) (hk : PySem.W.keepIn X.K (.ref f) = true) (hb : Binds X.K fd ps ds) (hd : Vals dvs ds) (hx : Tk X W)
    (ha : PA X (e :: es) t) (hdb : (x == ("__debug__" : Str)) = false := by decide) (he : starEach (e :: es) X.env = (false, eval e X.env) :: starEach es X.env := by rfl) (hpl : (backTo pos (starEach es X.env)).any (·.1) = false := by rfl) :
    PE X (.Call (.Name x p) (e :: es) [] pos) (tCallX sp dvs W t) := by
  intro pins s σ H Q I h
  exact wpAny_Call_Name_kw (ld_glob I hg hm (PySem.W.callWith_K (h₀ := X.base) I.ok.mod.kin hk (thn (ha pos pins s σ H _ I h) fun us s1 ⟨vs, H1, I1, r, q⟩ => ⟨I1.kIn, run_fnX F hr hb hd hx I1 r q⟩) he hpl) hdb)
def tMethX (C : Addr) (m : Str) (sp : Sp) (dvs : List V) (W : XWish) (ta : TE) (t : TA) : TE := fun σ H Q => ta σ H fun x H1 => ∃ a dx fs, x = .ref a ∧ H1 a = some (.ins C dx fs) ∧ fs.lookup m = none ∧ t σ H1 fun vs H2 => sp (x :: (vs ++ dvs)) H2 Q (EW W σ)
theorem pe_methX {pl : Sem Bool} (he : PE X o ta) (c : Cls X.K C) (hm : Meth X.K C m f) (F : FnOk X.prog X.w X.K X.mg X.base (CXx X.prog X.w) k f fd ps sp) (hr : Room k X.A) (hb : Binds X.K fd ps ds) (hd : Vals dvs ds) (hx : Tk X W) (ha : PA X (e :: es) t)
    (hst : starEach (e :: es) X.env = (false, eval e X.env) :: starEach es X.env := by rfl) (hpl : (backTo pos (starEach es X.env)).any (·.1) = false := by rfl)
    (ht : eval (.Call (.Attribute o m apos) (e :: es) [] pos) X.env = (do
      let ov ← eval o X.env
      standAt apos.atName
      let (f, first) ← holding [ov] (getMethod ov m pl)
      callWith pos f first (backTo pos (starEach (e :: es) X.env)) (backToKw pos (keywordEach [] X.env))) := by rfl) :
    PE X (.Call (.Attribute o m apos) (e :: es) [] pos) (tMethX C m sp dvs W ta t) := by
  intro pins s σ H Q I h
  refine PySem.W.methodCall_KW (pl := pl) (thn (he pins s σ H _ I h) fun u s1 ⟨x, H1, I1, rx, a, dx, fs, ex, ea, l, q⟩ => ?_) ht
  subst ex
  obtain rfl : u = Value.ref a := rx
  refine getmeth_ok I1 ea c hm l ?_
  exact PySem.W.callWith_K (h₀ := X.base) (first := [.ref a]) I1.ok.mod.kin hm.kp (thn (ha pos pins s1 σ H1 _ I1 q) fun us s2 ⟨vs, H2, I2, r, q2⟩ => ⟨I2.kIn, run_fnX (us := .ref a :: us) (vs := .ref a :: vs) F hr hb hd hx I2 (.cons rfl r) q2⟩) hst hpl
theorem pe_meth0X {pl : Sem Bool} (he : PE X o ta) (c : Cls X.K C) (hm : Meth X.K C m f) (F : FnOk X.prog X.w X.K X.mg X.base (CXx X.prog X.w) k f fd ps sp) (hr : Room k X.A) (hb : Binds X.K fd ps ds) (hd : Vals dvs ds) (hx : Tk X W)
    (ht : eval (.Call (.Attribute o m apos) [] [] pos) X.env = (do
      let ov ← eval o X.env
      standAt apos.atName
      let (f, first) ← holding [ov] (getMethod ov m pl)
      callWith pos f first (backTo pos (starEach [] X.env)) (backToKw pos (keywordEach [] X.env))) := by rfl) :
    PE X (.Call (.Attribute o m apos) [] [] pos) (tMethX C m sp dvs W ta tNil) := by
  intro pins s σ H Q I h
  refine PySem.W.methodCall_KW (pl := pl) (thn (he pins s σ H _ I h) fun u s1 ⟨x, H1, I1, rx, a, dx, fs, ex, ea, l, q⟩ => ?_) ht
  subst ex
  obtain rfl : u = Value.ref a := rx
  exact getmeth_ok I1 ea c hm l (PySem.W.callWith_K0 (first := [.ref a]) I1.kIn hm.kp (run_fnX (us := [.ref a]) (vs := [.ref a]) F hr hb hd hx I1 (.cons rfl .nil) q))
end
theorem FunD.okX {P : Program} {w : World} {K : PySem.W.Frag} {mg : Str → Option Value} {base : Heap} {x qual : Str} {st : Stmt} {dV : Value} {f : Addr} {fd : FuncData} {N ps : List Str} {k : Nat} {sp : Sp} (F : FunD K x qual st dV f fd) (S : FnScope N ps (defScope st)) (len : ∀ vs H Q E, sp vs H Q E → vs.length = ps.length)
    (hbody : ∀ (cdv : Value) (A : Around) (outer : List Env) (s : Shared) (H : Hp) (vs : List V) (Q : VK) (E : XK), Room k (A.deeper (envOfC qual (defScope st) s.heap.objs.size f cdv)) → sp vs H Q E →
      ∃ t W, (∀ C dx σ H', W C dx σ H' → E (.ref C) (some dx) H') ∧ PSs ((cxOf (CXx P w) P w K mg base N qual (defScope st) f cdv A outer s H E).wish (XBody (cxOf (CXx P w) P w K mg base N qual (defScope st) f cdv A outer s H E) W)) (defBody st) t ∧ t { nx := fun _ H' => gcK H Q .non H', rt := gcK H Q } (start N vs) H) :
    FnOk P w K mg base (CXx P w) (k + 1) f fd ps sp := by
  obtain ⟨oc, od, kV, doc, pm, an, cdv, ct, osl, rfl, lk, hcd⟩ := F.ex
  refine FnOk.gc (sp := fun vs H Q' E => ∃ Q, sp vs H Q E ∧ Q' = gcK H Q) (fn_of lk hcd S (fun vs H Q E ⟨Q0, q, _⟩ => len vs H Q0 E q) fun A outer s H vs Q' E hr hsp => ?_) fun vs H Q E q => ⟨Q, q, rfl⟩
  obtain ⟨Q, hsp, rfl⟩ := hsp
  obtain ⟨t, W, hE, h, q⟩ := hbody cdv A outer s H vs Q E hr hsp
  refine ⟨t, fun pins s1 σ H1 D I h1 => ?_, q⟩
  exact wpAny_mono (h pins s1 σ H1 D (I.wish _) h1) (fun _ _ z => z.unwish) fun _ _ z => z.leave hE
end L2
namespace L2
open PySem PySem.Spec PyProof.Rows
abbrev Cx.pp (X : Cx) (pins : List (Addr × Obj)) : Cx := { X with pn := X.pn ++ pins }
abbrev Cx.held (X : Cx) (e : Addr) : Cx := { X with A := X.A.mark (some (.ref e)), calm := false, xe := fun _ _ => False }
section
variable {X : Cx} {pins pins' : List (Addr × Obj)} {σ : St} {H : Hp} {s : Shared} {e : Addr}
theorem Inv.pp (I : Inv X (pins ++ pins') σ H s) : Inv (X.pp pins) pins' σ H s :=
  ⟨⟨I.ok.mod, I.ok.kind, I.ok.glob, I.ok.blt, I.ok.above, I.ok.inj, I.ok.has, I.ok.cab, I.ok.hd, I.ok.frames, I.ok.stk, I.ok.exf, I.ok.bs, I.ok.bsz, I.ok.noex, I.ok.exfs, I.ok.funs, I.ok.frf⟩, I.os, I.bare, I.base, I.loc, I.cell, I.free, I.freeC, fun p hp => I.pin p (by rw [← List.append_assoc]; exact hp), I.hok, I.len⟩
theorem Inv.held (I : Inv X pins σ H s) (e : Addr) : Inv (X.held e) pins σ H s :=
  ⟨⟨I.ok.mod, I.ok.kind, I.ok.glob, I.ok.blt, I.ok.above, I.ok.inj, I.ok.has, I.ok.cab, (fun z => by cases z), I.ok.frames, I.ok.stk, I.ok.exf, I.ok.bs, I.ok.bsz, I.ok.noex, I.ok.exfs, I.ok.funs, I.ok.frf⟩, I.os, I.bare, I.base, I.loc, I.cell, I.free, I.freeC, I.pin, I.hok, I.len⟩
theorem SP.map {X' : Cx} {pins' : List (Addr × Obj)} {D : Ends} {f : Flow} {s' : Shared} (g : ∀ σ H, Inv X' pins' σ H s' → Inv X pins σ H s') (h : SP X' pins' D f s') : SP X pins D f s' := by
  cases f with
  | next => obtain ⟨σ', H', I, q⟩ := h; exact ⟨σ', H', g _ _ I, q⟩
  | brk => obtain ⟨σ', H', I, q⟩ := h; exact ⟨σ', H', g _ _ I, q⟩
  | cont => obtain ⟨σ', H', I, q⟩ := h; exact ⟨σ', H', g _ _ I, q⟩
  | ret u => obtain ⟨v, σ', H', I, r, q⟩ := h; exact ⟨v, σ', H', g _ _ I, r, q⟩
end
section
variable {X : Cx} {W : XWish} {c : Str} {cp hpos pos : Pos} {b₀ : Stmt} {suite body : List Stmt} {tb : XWish → TS} {ts : TS} {cv : Value} {v : V}
end
end L2
namespace L2
open PySem PySem.Spec PyProof.Rows
abbrev xC (a C dx : Addr) : HO := .ext fun h => ∃ vs, h.get? a = some { cls := .ref C, dict := some dx, data := .fields vs }
section
variable {X : Cx} {pins : List (Addr × Obj)} {σ : St} {H : Hp} {s : Shared} {h' : Heap} {t' : Nat}
theorem Inv.locals (I : Inv X pins σ H s) (hsb : Heap.SameBut X.env.locals s.heap h') (loc : ∃ m, h'.Ns X.env.locals m ∧ ∀ (i : Nat) (x : Str) (v : V), X.N[i]? = some x → σ[i]? = some (some v) → Vis X.env.scope x → ∃ u, RelV v u ∧ Look X.env h' m x u) :
    Inv X pins σ H { s with heap := h', toks := t' } := by
  have nL : ∀ b o, X.s₀.heap.get? b = some o → b ≠ X.env.locals := fun b o q => Nat.ne_of_lt (Nat.lt_of_lt_of_le (Heap.lt_size q) I.ok.above)
  refine ⟨I.ok, I.os, I.bare, ⟨fun b o q n hb hx => (hsb.2 b (nL b o q)).trans (I.base.keep b o q n hb hx), fun b o q n hb hx => ?_, I.base.free, fun b o q hx => ?_, I.base.tups, I.base.frzs, I.base.tbls⟩, loc, fun x c q => ?_, I.free, I.freeC, fun p hp => ?_, fun b o q => ?_, I.len⟩
  · obtain ⟨sl, z⟩ := I.base.slot b o q n hb hx
    exact ⟨sl, (hsb.2 b (nL b o q)).trans z⟩
  · obtain ⟨o', z⟩ := I.base.there b o q hx
    exact ⟨o', (hsb.2 b (nL b o q)).trans z⟩
  · obtain ⟨v, o, ho, hd⟩ := I.cell x c q
    exact ⟨v, o, (hsb.2 c (I.cne x c q)).trans ho, hd⟩
  · obtain ⟨z1, z2, z3, z4⟩ := I.pin p hp
    exact ⟨(hsb.2 p.1 z3).trans z1, z2, z3, z4⟩
  · have nl : ∀ b u, H b = some u → b ≠ X.env.locals := fun b u z y => by rw [y, I.free] at z; cases z
    refine (I.hok b o q).stay (fun b' u hb z => ?_) (fun _ z => z) fun _ _ z => z
    rcases hb with rfl | hb
    · exact (hsb.2 _ (nl _ _ q)).trans z
    · exact (hsb.2 _ (nl _ _ hb)).trans z
end
section
variable {X : Cx} {W : XWish} {c n : Str} {cp hpos pos : Pos} {b₀ : Stmt} {suite body : List Stmt} {tb : XWish → TS} {ts : TS} {cv : Value} {v : V} {i : Nat}
def Ends.less (D : Ends) (i : Nat) : Ends := { nx := fun σ H => D.nx (σ.set i none) H, bk := fun σ H => D.bk (σ.set i none) H, ct := fun σ H => D.ct (σ.set i none) H, rt := D.rt }
end
end L2
namespace L2
open PySem PySem.Spec PyProof.Rows
section
variable {X : Cx} {e : Expr} {ta : TE} {f : Str} {pos : Pos}
end
end L2
namespace L2
open PySem PySem.Spec PyProof.Rows
structure XIs (K : PySem.W.Frag) (C : Addr) : Prop where
  gn : PySem.W.findIn K (.ref C) "__getattr__" = some none
  ca : PySem.W.findIn K (.ref C) "__class__" = some (some (.builtin "object.__class__"))
  hn : PySem.W.specialIn K (.builtin "object.__class__") "__get__" = some (some (.builtin "getset_descriptor.__get__"))
  tk : PySem.W.takesIn K (.builtin "object.__class__") = some true
  mr : PySem.W.mroIn K C (.type "object") = some true
section
variable {prog : Program} {w : World} {A : Around} {E : Value → Shared → Prop} {s : Shared} {K : PySem.W.Frag} {x C : Addr} {name : Str} {ox od : Obj}
end
end L2
namespace L2
open PySem PySem.Spec PyProof.Rows
section
variable {X : Cx} {k : Nat} {f C : Addr} {fd : FuncData} {ps : List Str} {sp : Sp} {dvs : List V} {ds : List Value} {W : XWish} {x : Str} {p pos : Pos} {e : Expr} {es : List Expr} {t : TA}
def tMakeX (C : Addr) (sp : Sp) (dvs : List V) (W : XWish) (t : TA) : TE := fun σ H Q => t σ H fun vs H1 => ∀ x dx, H1 x = none → H1 dx = none → dx ≠ x →
  sp (.ref x :: (vs ++ dvs)) (upd (upd H1 dx (.own x)) x (.ins C dx [])) (fun v H2 => v = .non ∧ Q (.ref x) H2) (EW W σ)
theorem run_makeX {pins : List (Addr × Obj)} {σ : St} {H : Hp} {s : Shared} {Q : VK} {us : List Value} {vs : List V} (M : Mk X.K C f) (F : FnOk X.prog X.w X.K X.mg X.base (CXx X.prog X.w) k f fd ps sp) (hr : Room (k + 1) X.A) (hb : Binds X.K fd ps ds) (hd : Vals dvs ds)
    (hx : Tk X W) (I : Inv X pins σ H s) (r : Vals vs us)
    (h : ∀ x dx, H x = none → H dx = none → dx ≠ x → sp (.ref x :: (vs ++ dvs)) (upd (upd H dx (.own x)) x (.ins C dx [])) (fun v H2 => v = .non ∧ Q (.ref x) H2) (EW W σ)) :
    wpAny (model X.prog X.w) X.A (call (.ref C) us) (EP X pins σ Q) X.xe s := by
  have hq := h (s.heap.objs.size + 1) s.heap.objs.size (I.hok.fresh (Nat.le_succ _)) (I.hok.fresh (Nat.le_refl _)) (Nat.ne_of_lt (Nat.lt_succ_self _))
  have I2 := Inv.made (C := C) I
  have r2 : Vals (V.ref (s.heap.objs.size + 1) :: (vs ++ dvs)) (Value.ref (s.heap.objs.size + 1) :: (us ++ ds)) := .cons rfl (r.append hd)
  have hl : (Value.ref (s.heap.objs.size + 1) :: us ++ ds).length = ps.length := by
    have e := r2.length
    rw [F.len _ _ _ _ hq] at e
    exact e.symm
  refine wpAny_call (make_map (f := f) I.kIn M.makes M.init (beq_iff_eq.mp M.fn) (codeAny_mono (F.run _ X.stack _ _ ⟨Value.ref (s.heap.objs.size + 1) :: us, []⟩ (Value.ref (s.heap.objs.size + 1) :: (us ++ ds)) _ _ _ (hr.make C us [])
    (I2.env0.make C us []) (hb _ (Value.ref (s.heap.objs.size + 1) :: us) I2.kIn hl) r2 hq) fun r s' hq' => ?_))
  match r, hq' with
  | .error e, hq' => exact hx _ _ (XBody.of_call I2 hq' fun C dx H' ⟨C', dx', e1, e2, w⟩ => by cases e1; cases e2; exact w)
  | .ok (.ret u), hq' =>
    obtain ⟨v, H', I3, rv, ev, q3⟩ := I2.after hq'
    subst ev
    exact ⟨rv, ⟨V.ref (s.heap.objs.size + 1), H', I3, rfl, q3⟩⟩
theorem pe_make0X (M : Mk X.K C f) (F : FnOk X.prog X.w X.K X.mg X.base (CXx X.prog X.w) k f fd ps sp) (hr : Room (k + 1) X.A) (hg : Gl X x) (hm : X.mg x = some (.ref C)) (hb : Binds X.K fd ps ds) (hd : Vals dvs ds) (hx : Tk X W)
    (hdb : (x == ("__debug__" : Str)) = false := by decide) : PE X (.Call (.Name x p) [] [] pos) (tMakeX C sp dvs W tNil) := fun pins s σ H Q I h =>
  wpAny_Call_Name_kw (ld_glob I hg hm (PySem.W.callWith_K0 I.kIn M.kp (run_makeX (us := []) M F hr hb hd hx I .nil h)) hdb)
end
end L2
namespace L2
open PySem PySem.Spec PyProof.Rows
section
variable {X : Cx} {k : Nat} {f C : Addr} {fd : FuncData} {ps : List Str} {g : Str} {x : Str} {np cpos : Pos} {arg : Expr} {ta : TA}
end
section
variable {K : PySem.W.Frag} {nm q : Str} {C N : Addr} {bs bm : List Value} {sn : List Str} {sub : List Value} {ab : Bool} {col : Option Bool} {dd : Option Addr} {k0 k1 k2 k3 k5 : Option Value} {newId : String} {name : Str}
end
end L2
namespace L2
open PySem
end L2
namespace L2
open PySem PySem.Spec PyProof.Rows
def rSlS : V → Option Int → Option Int → Hp → VK → Prop := fun x lo hi H Q => ∃ u, x = .str u ∧ u.length ≤ sizeLine ∧ Q (.str (Txt.slice u lo hi)) H
theorem sl_str {X : Cx} : SlR X rSlS := by
  intro pins s σ H x v vl vu lo hi sl Q I rx hs pl pu h
  obtain ⟨u, rfl, hz, q⟩ := h
  obtain ⟨t, rfl⟩ := rx
  have fin : ∀ (t' : Tok) (k : Nat), EP X pins σ Q (.str (Txt.slice u lo hi) t') { s with toks := k } := fun t' k => ⟨.str _, H, I.tok k, ⟨t', rfl⟩, q⟩
  refine ⟨"str", _, F.slot_str_getitem.lookup, typeIs_str _ _ _, ?_⟩
  cases pl with
  | none =>
    cases pu with
    | none => exact wpAny_getItem_str_slice (l := none) (u := none) (st := none) hs rfl (post_val_or_str ⟨Nat.le_trans (Txt.slice_le u _ _) hz, fin⟩)
    | int j uj => exact wpAny_getItem_str_slice (l := none) (u := some (j, uj)) (st := none) hs rfl (post_val_or_str ⟨Nat.le_trans (Txt.slice_le u _ _) hz, fin⟩)
  | int i ui =>
    cases pu with
    | none => exact wpAny_getItem_str_slice (l := some (i, ui)) (u := none) (st := none) hs rfl (post_val_or_str ⟨Nat.le_trans (Txt.slice_le u _ _) hz, fin⟩)
    | int j uj => exact wpAny_getItem_str_slice (l := some (i, ui)) (u := some (j, uj)) (st := none) hs rfl (post_val_or_str ⟨Nat.le_trans (Txt.slice_le u _ _) hz, fin⟩)
theorem tooLong_of {n : Nat} (h : n ≤ 1000000) : Builtin.Str.tooLong n = false := by
  unfold Builtin.Str.tooLong
  exact decide_eq_false (by have : (1000000 : Nat) ≤ sizeLine := by decide
                            omega)
theorem mulOk_of {x : Str} {n : Int} (hx : x.length ≤ 1000) (h0 : -(2 ^ 62) < n) (h1 : n ≤ 1000) : MulOk x n := by
  refine ⟨?_, ?_, ?_⟩
  · rw [decide_eq_false (by omega), decide_eq_false (by omega)]; rfl
  · intro a b
    have : (1000 : Int) ≤ (2 ^ 63 - 1) / n := by
      rw [Int.le_ediv_iff_mul_le (by omega)]
      omega
    omega
  · intro a b
    refine tooLong_of ?_
    have : n.toNat ≤ 1000 := by omega
    calc x.length * n.toNat ≤ 1000 * 1000 := Nat.mul_le_mul hx this
      _ ≤ 1000000 := by decide
theorem op_mul_str {X : Cx} : OpR X (binaryOp .Mult) (fun x y H Q => ∃ i j, x = .str i ∧ y = .int j ∧ MulOk i j ∧ Q (.str (PySem.Txt.mul i j)) H) := by
  intro pins s σ H x y v u Q I rx ry h
  obtain ⟨i, j, rfl, rfl, hz, q⟩ := h
  obtain ⟨t, rfl⟩ := rx
  obtain ⟨t', rfl⟩ := ry
  exact SB.mul hz (fun t' tk => ⟨.str (PySem.Txt.mul i j), H, I.tok _, ⟨_, rfl⟩, q⟩)
end L2
namespace L2
open PySem PySem.Spec PyProof.Rows
section
variable {X : Cx}
theorem d_toT {pins : List (Addr × Obj)} {σ : St} {H : Hp} {s : Shared} {a : Addr} (I : Inv X pins σ H s) (e : H a = some (.dK [])) : Inv X pins σ (upd H a (.dT [])) s := by
  obtain ⟨z, hd, vs, rel, o, es, ep, h1, h2, h3, h4, h5, h6⟩ := dk_of I.hok e
  have hv : vs = [] := by cases rel; rfl
  subst hv
  have he : es.toList = [] := by
    have := h5.length
    exact List.length_eq_zero_iff.mp (by simpa using this)
  exact d_write (t' := s.toks) (h' := s.heap) I (by rw [e]; exact True.intro) ⟨rfl, fun _ _ => rfl⟩ ⟨o, h1⟩ ⟨Nat.zero_le _, hd, [], .nil, o, es, ep, h1, h2, h3, by rw [he]; rfl, List.nodup_nil⟩
def DSee (H : Hp) (a : Addr) (y : V) (o : Option V) (H' : Hp) : Prop := (DGet H a y o ∧ H' = H) ∨ (H a = some (.dK []) ∧ (∃ (k : List Key) (b : Addr), y = .ref b ∧ H b = some (.tup (k.map kV))) ∧ o = none ∧ H' = upd H a (.dT []))
theorem DSee.inv {pins : List (Addr × Obj)} {σ : St} {H H' : Hp} {s : Shared} {a : Addr} {y : V} {o : Option V} (g : DSee H a y o H') (I : Inv X pins σ H s) : Inv X pins σ H' s ∧ DGet H' a y o := by
  rcases g with ⟨g, rfl⟩ | ⟨e, ⟨k, b, rfl, eb⟩, rfl, rfl⟩
  · exact ⟨I, g⟩
  · refine ⟨d_toT I e, .inr ⟨[], k, b, .inl upd_same, rfl, ?_, rfl⟩⟩
    rw [upd_ne (fun z => by subst z; rw [e] at eb; cases eb)]
    exact eb
def rDIn (neg : Bool) : R2 := fun y x H Q => ∃ a o H', x = .ref a ∧ DSee H a y o H' ∧ Q (.bl (if neg = true then !o.isSome else o.isSome)) H'
theorem op_dNotIn (hu : X.A.units + 1 < cLine) : OpR X (compareOp .NotIn) (rDIn true) := by
  intro pins s σ H y x v u Q I ry rx h
  obtain ⟨a, o, H', rfl, g, q⟩ := h
  obtain rfl : u = Value.ref a := rx
  obtain ⟨I1, g1⟩ := g.inv I
  exact d_notIn hu I1 g1 ry fun s' I' => ⟨.bl _, H', I', rfl, q⟩
def rIxD : R2 := fun x y H Q => ∃ a v, x = .ref a ∧ DGet H a y (some v) ∧ Q v H
theorem ix_dict (hu : X.A.units + 1 < cLine) : IxR X rIxD := by
  intro value slice pins s σ H x y v u Q I rx ry h hs
  obtain ⟨a, d, rfl, g, q⟩ := h
  obtain rfl : v = Value.ref a := rx
  exact tail_any (dict_typeIs I g) PySem.F.slot_dict_getitem.lookup (d_getItem hu I g ry fun w' s' I' rw' => ⟨d, H, I', rw', q⟩) hs
section
variable {o e f i value : Expr} {apos cpos pos pos' : Pos} {td ty tx tv : TE}
def tDSee2 (td ty tx : TE) : TE := fun σ H Q => td σ H fun x H1 => ∃ a, x = .ref a ∧ IsD H1 a ∧ ty σ H1 fun y H2 => tx σ H2 fun z H3 => ∃ o H4, DSee H3 a y o H4 ∧ Q (o.getD z) H4
theorem pe_dsee2 (hu : X.A.units + 1 < cLine) (ho : PE X o td) (he : PE X e ty) (hf : PE X f tx) (m : M2 X o "get" apos e f cpos) : PE X (.Call (.Attribute o "get" apos) [e, f] [] cpos) (tDSee2 td ty tx) := by
  intro pins s σ H Q I h
  refine wpAny_Call_method m.base m.few m.line PySem.F.plainAttrs_dict PySem.F.slot_dict_get PySem.F.type_dict_get (thn (ho pins s σ H _ I h) fun u t ⟨x, H1, I1, rx, a, ex, d, q1⟩ => ?_)
  subst ex
  obtain rfl : u = Value.ref a := rx
  have ty := isD_at I1 d
  refine ⟨ty.1, ty.2.1, ?_⟩
  rw [m.trees]
  refine Calls.callWith_builtin rfl (Calls.evalArgs_plain (Calls.spliced_cons (thn (he pins t σ H1 _ I1 q1) fun iv t2 ⟨y, H2, I2, ry, q2⟩ => Calls.spliced_cons (thn (hf pins t2 σ H2 _ I2 q2) fun fv t3 ⟨z, H3, I3, rz, ov, H4, g, q3⟩ => Calls.spliced_nil ?_))))
  obtain ⟨I4, g4⟩ := g.inv I3
  exact d_get2 hu I4 g4 ry rz fun w' t4 I5 rw' => ⟨_, H4, I5, rw', q3⟩
def DSet (H : Hp) (a : Addr) (y v : V) (H' : Hp) : Prop := DPut H a y v H' ∨ ∃ (k : List Key) (b : Addr), H a = some (.dK []) ∧ y = .ref b ∧ H b = some (.tup (k.map kV)) ∧ H' = upd H a (.dT [(k, v)])
def sDSet (td ty tv : TE) : TS := fun D σ H => tv σ H fun v H1 => td σ H1 fun x H2 => ty σ H2 fun y H3 => ∃ a H4, x = .ref a ∧ DSet H3 a y v H4 ∧ D.nx σ H4
theorem ps_dset (hu : X.A.units + 1 < cLine) (ho : PE X o td) (hi : PE X i ty) (hv : PE X value tv) (hs : swapsWith value (some (.Subscript o i pos')) pos.line X.env = pure false) : PS X (.Assign [.Subscript o i pos'] value pos) (sDSet td ty tv) := by
  intro pins s σ H D I h
  refine wpAny_Assign_Subscript (thn (hv pins s σ H _ I h) fun r t1 ⟨v, H1, I1, rv, q1⟩ => thn (ho pins t1 σ H1 _ I1 q1) fun u t2 ⟨x, H2, I2, rx, q2⟩ => thn (hi pins t2 σ H2 _ I2 q2) fun iv t3 ⟨y, H3, I3, ry, a, H4, ex, g, q3⟩ => ?_) hs
  subst ex
  obtain rfl : u = Value.ref a := rx
  rcases g with g | ⟨k, b, e, rfl, eb, rfl⟩
  · exact d_setItem hu I3 g ry rv fun t4 I4 => ⟨σ, H4, I4, q3⟩
  · have eb' : upd H3 a (.dT []) b = some (.tup (k.map kV)) := by
      rw [upd_ne (fun z => by subst z; rw [e] at eb; cases eb)]
      exact eb
    refine d_setItem hu (d_toT I3 e) (DPut.t upd_same eb' (by rw [sizeLine_eq]; decide)) ry rv fun t4 I4 => ⟨σ, _, I4, ?_⟩
    rw [upd_upd]
    exact q3
end
end
section
variable {prog : Program} {w : World} {A : Around} {E : Value → Shared → Prop} {s : Shared} {κ : Type} [DecidableEq κ] {knd : HeapKind prog w κ} {a : Addr} {xs : List (κ × Addr × Value)}
theorem lenT_meets (hd : (a == sysModules) = false) : MeetsIn prog w (Builtin.«dict.__len__» ⟨[.ref a], []⟩) (fun _ R t => ∃ ys : List (κ × Addr × Value), t.heap.DictOfH knd a ys ∧ R (.ok (.ret (.int ys.length t.toks))) { t with toks := t.toks + 1 }) :=
  .of_wp fun A R t ⟨ys, hm, q⟩ => by
    obtain ⟨o, es, ep, e1, _, e2, e3, _⟩ := hm
    show wpAny _ _ (dictSize a >>= _) _ _ t
    unfold dictSize
    refine wpAny_bind (wpAny_bind (wpAny_dictEntries e1 e2 (wpAny_pure ?_)))
    show wpAny _ _ (Builtin.Dict.pendingCount a >>= _) _ _ t
    refine wpAny_bind (wpAny_pendingCount_other hd (wpAny_ret_mkInt ?_))
    have sz : es.size = ys.length := by rw [← Array.length_toList, e3, List.length_map]
    rw [Nat.add_zero, sz]
    exact q
theorem lenT {Q : Value → Shared → Prop} (hd : (a == sysModules) = false) (hm : s.heap.DictOfH knd a xs) (hz : (xs.length : Int) < 2 ^ 63) (q : Q (.int xs.length (s.toks + 1)) { s with toks := s.toks + 1 + 1 }) : wpAny (model prog w) A (call (.builtin "len") [.ref a]) Q E s := by
  refine Calls.call_function_entry kind_len plain_len entry_len (args_len1 _) ?_
  unfold Builtin.«len»
  refine wpAny_bind (m := oneArg "len" _) (wpAny_pure (wpAny_bind (m := callSpecial? (.ref a) (Str.ofString "__len__")) ?_))
  refine wpAny_callSpecial?_slot (name := Str.ofString "__len__") hm.typeIs F.slot_dict_len (call_meetsIn F.slot_dict_len hm.typeIs F.entry_dict_len (F.args_dict_len_1 _) (lenT_meets (knd := knd) hd) ⟨xs, hm, ?_⟩)
  show wpAny (model prog w) _ _ _ _ { s with toks := s.toks + 1 }
  refine wpAny_bind (wpAny_holding (wpAny_pure (wpAny_bind (wpAny_letGo ?_))))
  show wpAny (model prog w) _ (if ((xs.length : Nat) : Int) < 0 then _ else _) _ _ _
  rw [if_neg (by omega)]
  show wpAny (model prog w) _ (if ((xs.length : Nat) : Int) ≥ 2 ^ 63 then _ else _) _ _ _
  rw [if_neg (by omega)]
  exact wpAny_bind (wpAny_mkInt (wpAny_pure ⟨_, rfl, q⟩))
end
theorem call_lenT {X : Cx} : CallR X (.builtin "len") (fun xs H Q => ∃ a kvs, xs = [V.ref a] ∧ H a = some (.dT kvs) ∧ Q (.int kvs.length) H) := by
  intro pins s σ H xs us Q I r h
  obtain ⟨a, kvs, rfl, ha, q⟩ := h
  obtain ⟨u, rfl, ru⟩ := vals1 r
  cases ru
  obtain ⟨z, hd, ys, rel, dd⟩ := dt_of I.hok ha
  have hl := Paired.length rel
  refine lenT hd dd (by rw [← hl]; rw [sizeLine_eq] at z; omega) ⟨.int kvs.length, H, I.tok _, ⟨_, by rw [hl]⟩, q⟩
end L2
namespace L2
open PySem PySem.W PyProof.Rows
def Way (n : Nat) (lt : Nat → Nat → Bool) {α : Type} : KasT α → (α → Prop) → Prop
  | .ret a, Q => Q a
  | .ask i j k, Q => i < n ∧ j < n ∧ Way n lt (k (lt i j)) Q
theorem Way.bind {n : Nat} {lt : Nat → Nat → Bool} {α β : Type} {f : α → KasT β} {Q : β → Prop} : ∀ {t : KasT α}, Way n lt t (fun a => Way n lt (f a) Q) → Way n lt (t.bind f) Q
  | .ret _, h => h
  | .ask _ _ _, h => ⟨h.1, h.2.1, Way.bind h.2.2⟩
theorem Way.mono {n : Nat} {lt : Nat → Nat → Bool} {α : Type} {Q Q' : α → Prop} (hq : ∀ a, Q a → Q' a) : ∀ {t : KasT α}, Way n lt t Q → Way n lt t Q'
  | .ret _, h => hq _ h
  | .ask _ _ _, h => ⟨h.1, h.2.1, Way.mono hq h.2.2⟩
theorem Way.wp {n : Nat} {lt : Nat → Nat → Bool} {G : Shared → Prop} {cmp : Nat → Nat → (Bool → Shared → Prop) → Shared → Prop}
    (hc : ∀ i j, i < n → j < n → ∀ (C : Bool → Shared → Prop) s, G s → (∀ s', G s' → C (lt i j) s') → cmp i j C s) {α : Type} {R : α → Shared → Prop} {Q : α → Prop} (hR : ∀ a s, Q a → G s → R a s) :
    ∀ {t : KasT α} {s : Shared}, Way n lt t Q → G s → t.kasWp cmp R s
  | .ret _, _, h, g => hR _ _ h g
  | .ask i j k, s, h, g => hc i j h.1 h.2.1 _ s g fun _ g' => Way.wp hc hR h.2.2 g'
structure Pm (n : Nat) (p : Array Nat) : Prop where
  sz : p.size = n
  pm : p.Perm (List.range n).toArray
section
variable {n : Nat} {O : KeyOrd} {k : Nat → O.α}
theorem Pm.lt {p : Array Nat} (h : Pm n p) {i : Nat} (hi : i < n) : p.getD i 0 < n := by
  have hs : i < p.size := by rw [h.sz]; exact hi
  have e : p.getD i 0 = p[i] := by simp [Array.getD, hs]
  rw [e]
  have := (Array.perm_iff_toList_perm.mp h.pm).mem_iff (a := p[i])
  simpa using this.mp (by simp)
theorem Pm.of {p q : Array Nat} (h : Pm n p) (hp : q.Perm p) : Pm n q := ⟨by rw [hp.size_eq, h.sz], hp.trans h.pm⟩
def kk (k : Nat → O.α) (p : Array Nat) (i : Nat) : O.α := k (p.getD i 0)
theorem kk_at {p q : Array Nat} {i j : Nat} (h : p[i]? = q[j]?) : kk (O := O) k p i = kk k q j := by
  unfold kk
  rw [Array.getD_eq_getD_getElem?, Array.getD_eq_getD_getElem?, h]
theorem kk_move {p : Array Nat} {a d : Nat} (hs : a < p.size) (hd : d ≤ a) (i : Nat) : kk (O := O) k (bubble p a d) i = if i = a - d then kk k p a else if a - d < i ∧ i ≤ a then kk k p (i - 1) else kk k p i := by
  have g := getElem?_bubble hs d hd i
  split
  · rename_i h1; rw [if_pos h1] at g; exact kk_at g
  · rename_i h1
    rw [if_neg h1] at g
    split
    · rename_i h2; rw [if_pos h2] at g; exact kk_at g
    · rename_i h2; rw [if_neg h2] at g; exact kk_at g
theorem kk_turn {p : Array Nat} {a b : Nat} (hb : b ≤ p.size) (i : Nat) : kk (O := O) k (kas_rev p a b) i = if a ≤ i ∧ i < b then kk k p (a + b - 1 - i) else kk k p i := by
  have g := getElem?_mirror_all (i := a) hb i
  unfold kas_rev
  split
  · rename_i h1; rw [if_pos h1] at g; exact kk_at g
  · rename_i h1; rw [if_neg h1] at g; exact kk_at g
def Up (k : Nat → O.α) (p : Array Nat) (m : Nat) : Prop := ∀ i j, i ≤ j → j < m → O.kle (kk k p i) (kk k p j)
def Dn (k : Nat → O.α) (p : Array Nat) (m : Nat) : Prop := ∀ i j, i ≤ j → j < m → O.kle (kk k p j) (kk k p i)
theorem Up.one {p : Array Nat} : Up (O := O) k p 1 := fun i j a b => by
  obtain rfl : i = j := by omega
  exact O.irrefl _
theorem Up.more {p : Array Nat} {m : Nat} (h : Up (O := O) k p m) (h1 : 1 ≤ m) (e : O.kle (kk k p (m - 1)) (kk k p m)) : Up k p (m + 1) := fun i j a b => by
  rcases Nat.lt_or_ge j m with q | q
  · exact h i j a q
  · obtain rfl : j = m := by omega
    rcases Nat.lt_or_ge i j with z | z
    · exact KeyOrd.kle_trans (h i (j - 1) (by omega) (by omega)) e
    · obtain rfl : i = j := by omega
      exact O.irrefl _
theorem Dn.more {p : Array Nat} {m : Nat} (h : Dn (O := O) k p m) (h1 : 1 ≤ m) (e : O.kle (kk k p m) (kk k p (m - 1))) : Dn k p (m + 1) := fun i j a b => by
  rcases Nat.lt_or_ge j m with q | q
  · exact h i j a q
  · obtain rfl : j = m := by omega
    rcases Nat.lt_or_ge i j with z | z
    · exact KeyOrd.kle_trans e (h i (j - 1) (by omega) (by omega))
    · obtain rfl : i = j := by omega
      exact O.irrefl _
theorem Dn.like {p q : Array Nat} {m : Nat} (h : Dn (O := O) k p m) (e : ∀ i, kk (O := O) k q i = kk k p i) : Dn k q m := fun i j a b => by rw [e, e]; exact h i j a b
abbrev ltK (O : KeyOrd) (k : Nat → O.α) : Nat → Nat → Bool := fun i j => O.blt (k i) (k j)
theorem way_asc {p : Array Nat} (hp : Pm n p) : ∀ (f m : Nat), 1 ≤ m → m + f ≤ n → Up (O := O) k p m →
    Way n (ltK O k) (kas_asc p f m) fun r => m ≤ r ∧ r ≤ m + f ∧ Up k p r ∧ (r = m + f ∨ O.klt (kk k p r) (kk k p (r - 1)))
  | 0, m, _, _, h => ⟨Nat.le_refl _, Nat.le_refl _, h, .inl rfl⟩
  | f + 1, m, h1, h2, h => by
    refine ⟨hp.lt (by omega), hp.lt (by omega), ?_⟩
    cases c : ltK O k (p.getD m 0) (p.getD (m - 1) 0) with
    | true => dsimp only; rw [if_pos rfl]; exact ⟨Nat.le_refl _, by omega, h, .inr c⟩
    | false =>
      dsimp only; rw [if_neg Bool.false_ne_true]
      refine Way.mono ?_ (way_asc hp f (m + 1) (by omega) (by omega) (h.more h1 c))
      rintro r ⟨a, b, c, d⟩
      exact ⟨by omega, by omega, c, d.imp (fun e => by omega) id⟩
def Eqs (k : Nat → O.α) (p : Array Nat) (m q : Nat) : Prop := q + 1 ≤ m ∧ ∀ i, m - (q + 1) ≤ i → i < m → kk (O := O) k p i = kk k p (m - 1)
theorem turn_eqs {p : Array Nat} {m q : Nat} (hm : m ≤ p.size) (h : Eqs (O := O) k p m q) (i : Nat) : kk (O := O) k (kas_rev p (m - (q + 1)) m) i = kk k p i := by
  rw [kk_turn hm]
  split
  · rw [h.2 _ (by omega) (by omega), h.2 i (by omega) (by omega)]
  · rfl
theorem way_desc : ∀ (f : Nat) {p : Array Nat} {m q : Nat}, Pm n p → m + f ≤ n → Dn (O := O) k p m → Eqs (O := O) k p m q →
    Way n (ltK O k) (kas_desc f p m q) fun r => Pm n r.1 ∧ m ≤ r.2.1 ∧ r.2.1 ≤ n ∧ Dn k r.1 r.2.1 ∧ Eqs (O := O) k r.1 r.2.1 r.2.2
  | 0, p, m, q, hp, h2, h, he => ⟨hp, Nat.le_refl _, by omega, h, he⟩
  | f + 1, p, m, q, hp, h2, h, he => by
    have h1 : 1 ≤ m := by have := he.1; omega
    refine ⟨hp.lt (by omega), hp.lt (by omega), ?_⟩
    have up : ∀ {t : KasT (Array Nat × Nat × Nat)}, Way n (ltK O k) t (fun r => Pm n r.1 ∧ m + 1 ≤ r.2.1 ∧ r.2.1 ≤ n ∧ Dn k r.1 r.2.1 ∧ Eqs (O := O) k r.1 r.2.1 r.2.2) → Way n (ltK O k) t (fun r => Pm n r.1 ∧ m ≤ r.2.1 ∧ r.2.1 ≤ n ∧ Dn k r.1 r.2.1 ∧ Eqs (O := O) k r.1 r.2.1 r.2.2) :=
      Way.mono fun r ⟨a, b, c, d, e⟩ => ⟨a, by omega, c, d, e⟩
    have one : ∀ {p' : Array Nat}, Eqs (O := O) k p' (m + 1) 0 := ⟨by omega, fun i a b => by congr 1; omega⟩
    cases c : ltK O k (p.getD m 0) (p.getD (m - 1) 0) with
    | true =>
      dsimp only; rw [if_pos rfl]
      have d1 := h.more h1 (KeyOrd.kle_of_klt c)
      split
      · have e := turn_eqs (by rw [hp.sz]; omega) he
        exact up (way_desc f (hp.of (mirror_perm _ _ _ _)) (by omega) (d1.like e) one)
      · exact up (way_desc f hp (by omega) d1 one)
    | false =>
      dsimp only; rw [if_neg Bool.false_ne_true]
      refine ⟨hp.lt (by omega), hp.lt (by omega), ?_⟩
      cases c' : ltK O k (p.getD (m - 1) 0) (p.getD m 0) with
      | true => dsimp only; rw [if_pos rfl]; exact ⟨hp, Nat.le_refl _, show m ≤ n by omega, h, he⟩
      | false =>
        dsimp only; rw [if_neg Bool.false_ne_true]
        have eq : kk (O := O) k p m = kk k p (m - 1) := O.total _ _ c c'
        refine up (way_desc f hp (by omega) (h.more h1 c') ⟨by have := he.1; omega, fun i a b => ?_⟩)
        rw [show m + 1 - 1 = m by omega]
        rcases Nat.lt_or_ge i m with z | z
        · rw [eq]; exact he.2 i (by omega) z
        · congr 1; omega
abbrev Cnt (n : Nat) (k : Nat → O.α) : Nat × Array Nat → Prop := fun r => Pm n r.2 ∧ 1 ≤ r.1 ∧ r.1 ≤ n ∧ Up (O := O) k r.2 r.1
theorem way_tail {p : Array Nat} {m : Nat} (hp : Pm n p) (h1 : 1 ≤ m) (h2 : m ≤ n) (h : Dn (O := O) k p m) : Way n (ltK O k) (kas_tail3 m n p) (Cnt (O := O) n k) := by
  have hq : Pm n (kas_rev p 0 m) := hp.of (mirror_perm _ _ _ _)
  have u : Up (O := O) k (kas_rev p 0 m) m := fun i j a b => by
    have hz : m ≤ p.size := by rw [hp.sz]; exact h2
    rw [kk_turn hz, kk_turn hz, if_pos ⟨by omega, by omega⟩, if_pos ⟨by omega, b⟩]
    exact h _ _ (by omega) (by omega)
  exact Way.bind (Way.mono (fun r ⟨a, b, c, _⟩ => ⟨hq, by omega, by omega, c⟩) (way_asc hq (n - m) m h1 (by omega) u))
theorem way_part {p : Array Nat} {m : Nat} (hp : Pm n p) (h2 : m + 1 ≤ n) (h : Dn (O := O) k p (m + 1)) : Way n (ltK O k) (kas_descPart m n p) (Cnt (O := O) n k) := by
  refine Way.bind (Way.mono ?_ (way_desc (n - (m + 1)) (q := 0) hp (by omega) h ⟨by omega, fun i a b => by congr 1; omega⟩))
  rintro ⟨p', m', q'⟩ ⟨a, b, c, d, e⟩
  dsimp only at a b c d e ⊢
  split
  · exact way_tail (a.of (mirror_perm _ _ _ _)) (by omega) c (d.like (turn_eqs (by rw [a.sz]; exact c) e))
  · exact way_tail a (by omega) c d
theorem way_count {p : Array Nat} (hp : Pm n p) (h1 : 1 ≤ n) : Way n (ltK O k) (kas_count n p) (Cnt (O := O) n k) := by
  refine Way.bind (Way.mono ?_ (way_asc hp (n - 1) 1 (Nat.le_refl _) (by omega) Up.one))
  rintro m ⟨a, b, u, l⟩
  split
  · exact ⟨hp, a, by omega, u⟩
  · rename_i ne
    have ne' : m ≠ n := fun z => ne (by simp [z])
    have lt : O.klt (kk k p m) (kk k p (m - 1)) := l.resolve_left (by omega)
    split
    · refine ⟨hp.lt (by omega), hp.lt (by omega), ?_⟩
      cases c : ltK O k (p.getD 0 0) (p.getD (m - 1) 0) with
      | true => dsimp only; rw [if_pos rfl]; exact ⟨hp, a, by omega, u⟩
      | false =>
        dsimp only; rw [if_neg Bool.false_ne_true]
        have al : ∀ i, i < m → kk (O := O) k p i = kk k p (m - 1) := fun i hi => O.total _ _ (KeyOrd.kle_trans (show O.kle (kk k p (m - 1)) (kk k p 0) from c) (u 0 i (by omega) hi)) (u i (m - 1) (by omega) (by omega))
        have eqs : Eqs (O := O) k p m (m - 1) := ⟨by omega, fun i _ hi => al i hi⟩
        have tn := turn_eqs (by rw [hp.sz]; omega) eqs
        rw [show m - (m - 1 + 1) = 0 by omega] at tn
        have dn : Dn (O := O) k p m := fun i j x y => by rw [al i (by omega), al j y]; exact O.irrefl _
        exact way_part (hp.of (mirror_perm _ _ _ _)) (by omega) ((dn.more a (KeyOrd.kle_of_klt lt)).like tn)
    · obtain rfl : m = 1 := by omega
      exact way_part hp (by omega) (Dn.more (m := 1) (fun i j x y => Up.one j i (by omega) (by omega)) (Nat.le_refl _) (KeyOrd.kle_of_klt lt))
theorem way_place {p : Array Nat} {a : Nat} (hp : Pm n p) (ha : a < n) (u : Up (O := O) k p a) : ∀ (f l r : Nat), l ≤ r → r ≤ a → r - l ≤ f → (∀ i, i < l → O.kle (kk k p i) (kk k p a)) → (∀ i, r ≤ i → i < a → O.klt (kk k p a) (kk k p i)) →
    Way n (ltK O k) (kas_place p a f l r) fun z => z ≤ a ∧ (∀ i, i < z → O.kle (kk k p i) (kk k p a)) ∧ ∀ i, z ≤ i → i < a → O.klt (kk k p a) (kk k p i)
  | 0, l, r, h1, h2, h3, lo, hi => ⟨by omega, lo, fun i x y => hi i (by omega) y⟩
  | f + 1, l, r, h1, h2, h3, lo, hi => by
    unfold kas_place
    split
    · exact ⟨by omega, lo, fun i x y => hi i (by omega) y⟩
    · refine ⟨hp.lt ha, hp.lt (by omega), ?_⟩
      cases c : ltK O k (p.getD a 0) (p.getD ((l + r) / 2) 0) with
      | true =>
        dsimp only; rw [if_pos rfl]
        exact way_place hp ha u f l _ (by omega) (by omega) (by omega) lo fun i x y => KeyOrd.klt_of_klt_of_kle c (u _ i x y)
      | false =>
        dsimp only; rw [if_neg Bool.false_ne_true]
        exact way_place hp ha u f _ r (by omega) h2 (by omega) (fun i x => KeyOrd.kle_trans (u i ((l + r) / 2) (by omega) (by omega)) c) hi
theorem way_bin : ∀ (f : Nat) {p : Array Nat} {a : Nat}, Pm n p → a + f = n → Up (O := O) k p a → Way n (ltK O k) (kas_bin f p a) fun q => Pm n q ∧ Up k q n
  | 0, p, a, hp, h, u => ⟨hp, by rw [← h]; exact u⟩
  | f + 1, p, a, hp, h, u => by
    refine Way.bind (Way.mono ?_ (way_place hp (by omega) u a 0 a (by omega) (by omega) (by omega) (fun i x => by omega) (fun i x y => by omega)))
    rintro z ⟨hz, lo, hi⟩
    refine way_bin f (hp.of (bubble_perm _ _ _)) (by omega) fun i j x y => ?_
    have hs : a < p.size := by rw [hp.sz]; omega
    rw [kk_move hs (by omega), kk_move hs (by omega), show a - (a - z) = z by omega]
    repeat' split
    all_goals first
      | exact O.irrefl _
      | exact lo _ (by omega)
      | exact KeyOrd.kle_of_klt (hi _ (by omega) (by omega))
      | exact u _ _ (by omega) (by omega)
      | (exfalso; omega)
theorem way_sort (h1 : 1 ≤ n) : Way n (ltK O k) (kas_sort n) fun q => Pm n q ∧ Up (O := O) k q n := by
  refine Way.bind (Way.mono ?_ (way_count (p := (List.range n).toArray) ⟨by simp, Array.Perm.refl _⟩ h1))
  rintro ⟨m, p⟩ ⟨a, b, c, u⟩
  dsimp only at a b c u ⊢
  split
  · have e : max m 1 = m := by omega
    rw [e]
    exact way_bin _ a (by omega) u
  · exact ⟨a, by rw [show n = m by omega]; exact u⟩
end
end L2
namespace L2
open PySem PySem.Spec PySem.W PyProof.Rows
theorem lexLt_self : ∀ a : List Int, HT.lexLt a a = false
  | [] => rfl
  | x :: xs => by rw [HT.lexLt_cons, if_pos rfl]; exact lexLt_self xs
theorem lexLt_total : ∀ a b : List Int, HT.lexLt a b = false → HT.lexLt b a = false → a = b
  | [], [], _, _ => rfl
  | [], _ :: _, h, _ => by cases h
  | _ :: _, [], _, h => by cases h
  | x :: xs, y :: ys, h, h' => by
    rw [HT.lexLt_cons] at h h'
    by_cases e : x = y
    · subst e
      rw [if_pos rfl] at h h'
      rw [lexLt_total xs ys h h']
    · rw [if_neg e] at h
      rw [if_neg (Ne.symm e)] at h'
      have := of_decide_eq_false h
      have := of_decide_eq_false h'
      omega
theorem lexLt_neg : ∀ a b c : List Int, HT.lexLt a c = true → HT.lexLt a b = true ∨ HT.lexLt b c = true
  | _, _, [], h => by rename_i a b; cases a <;> cases h
  | [], [], _ :: _, _ => .inr rfl
  | [], _ :: _, _ :: _, _ => .inl rfl
  | _ :: _, [], _ :: _, _ => .inr rfl
  | x :: xs, y :: ys, z :: zs, h => by
    rw [HT.lexLt_cons] at h
    rw [HT.lexLt_cons, HT.lexLt_cons]
    by_cases e : x = z
    · subst e
      rw [if_pos rfl] at h
      by_cases f : x = y
      · subst f
        rw [if_pos rfl, if_pos rfl]
        exact lexLt_neg xs ys zs h
      · rw [if_neg f, if_neg (Ne.symm f)]
        rcases Int.lt_or_gt_of_ne f with q | q
        · exact .inl (decide_eq_true q)
        · exact .inr (decide_eq_true q)
    · rw [if_neg e] at h
      have hz := of_decide_eq_true h
      by_cases f : x = y
      · subst f
        right
        rw [if_neg e]; exact h
      · rw [if_neg f]
        rcases Int.lt_or_gt_of_ne f with q | q
        · exact .inl (decide_eq_true q)
        · right
          rw [if_neg (by omega)]
          exact decide_eq_true (by omega)
theorem lexLt_trans (a b c : List Int) (h : HT.lexLt a b = true) (h' : HT.lexLt b c = true) : HT.lexLt a c = true := by
  rcases lexLt_neg a c b h with q | q
  · exact q
  · rcases lexLt_neg b a c h' with r | r
    · have e : ∀ x y : List Int, HT.lexLt x y = true → HT.lexLt y x = true → False := by
        intro x
        induction x with
        | nil => intro y h1 h2; cases y <;> cases h2
        | cons u us ih =>
          intro y h1 h2
          cases y with
          | nil => cases h1
          | cons v vs =>
            rw [HT.lexLt_cons] at h1 h2
            by_cases z : u = v
            · subst z
              rw [if_pos rfl] at h1 h2
              exact ih vs h1 h2
            · rw [if_neg z] at h1
              rw [if_neg (Ne.symm z)] at h2
              have := of_decide_eq_true h1
              have := of_decide_eq_true h2
              omega
      exact (e a b h r).elim
    · exact r
def lexO : KeyOrd := ⟨List Int, HT.lexLt, lexLt_self, lexLt_trans, lexLt_neg, lexLt_total⟩
def tkey (s : Str) : List Int := s.cps.toList.map Int.ofNat ++ [-1]
def Kin (c d : List Int) : Prop := ∀ r r' : List Int, HT.lexLt (c ++ r) (d ++ r') = if c = d then HT.lexLt r r' else HT.lexLt c d
theorem kin_len : ∀ {c d : List Int}, c.length = d.length → Kin c d
  | [], [], _ => fun r r' => by rw [if_pos rfl]; rfl
  | [], _ :: _, h => by cases h
  | _ :: _, [], h => by cases h
  | x :: c, y :: d, h => fun r r' => by
    have ih := kin_len (c := c) (d := d) (by simpa using h) r r'
    rw [List.cons_append, List.cons_append, HT.lexLt_cons, HT.lexLt_cons]
    by_cases e : x = y
    · subst e
      rw [if_pos rfl, if_pos rfl, ih]
      by_cases q : c = d
      · rw [if_pos q, if_pos (by rw [q])]
      · rw [if_neg q, if_neg (fun z => q (by injection z))]
    · rw [if_neg e, if_neg e, if_neg (fun z => e (by injection z))]
theorem kin_txt : ∀ (a b : List Nat), Kin (a.map Int.ofNat ++ [-1]) (b.map Int.ofNat ++ [-1]) ∧ HT.lexLt (a.map Int.ofNat ++ [-1]) (b.map Int.ofNat ++ [-1]) = decide (a < b) ∧ (a.map Int.ofNat ++ [-1] = b.map Int.ofNat ++ [-1] → a = b)
  | [], [] => ⟨kin_len rfl, by simp [HT.lexLt], fun _ => rfl⟩
  | [], y :: b => by
    have e : (-1 : Int) ≠ Int.ofNat y := by simp
    have l : (-1 : Int) < Int.ofNat y := by simp; omega
    refine ⟨fun r r' => ?_, ?_, fun h => ?_⟩
    · simp only [List.map_nil, List.nil_append, List.map_cons, List.cons_append]
      rw [HT.lexLt_cons, HT.lexLt_cons, if_neg e, if_neg e, if_neg (fun z => e (by injection z))]
    · simp only [List.map_nil, List.nil_append, List.map_cons, List.cons_append]
      rw [HT.lexLt_cons, if_neg e, decide_eq_true l]
      simp
    · simp only [List.map_nil, List.nil_append, List.map_cons, List.cons_append] at h
      exact absurd (by injection h) e
  | x :: a, [] => by
    have e : Int.ofNat x ≠ (-1 : Int) := by simp
    have l : ¬ Int.ofNat x < (-1 : Int) := by simp
    refine ⟨fun r r' => ?_, ?_, fun h => ?_⟩
    · simp only [List.map_nil, List.nil_append, List.map_cons, List.cons_append]
      rw [HT.lexLt_cons, HT.lexLt_cons, if_neg e, if_neg e, if_neg (fun z => e (by injection z))]
    · simp only [List.map_nil, List.nil_append, List.map_cons, List.cons_append]
      rw [HT.lexLt_cons, if_neg e, decide_eq_false l]
      simp
    · simp only [List.map_nil, List.nil_append, List.map_cons, List.cons_append] at h
      exact absurd (by injection h) e
  | x :: a, y :: b => by
    obtain ⟨k, l, i⟩ := kin_txt a b
    by_cases e : x = y
    · subst e
      refine ⟨fun r r' => ?_, ?_, fun h => ?_⟩
      · simp only [List.map_cons, List.cons_append]
        rw [HT.lexLt_cons, HT.lexLt_cons, if_pos rfl, if_pos rfl, k]
        by_cases q : a.map Int.ofNat ++ [-1] = b.map Int.ofNat ++ [-1]
        · rw [if_pos q, if_pos (by rw [q])]
        · rw [if_neg q, if_neg (fun z => q (by injection z))]
      · simp only [List.map_cons, List.cons_append]
        rw [HT.lexLt_cons, if_pos rfl, l]
        simp
      · simp only [List.map_cons, List.cons_append] at h
        rw [i (by injection h)]
    · have e' : Int.ofNat x ≠ Int.ofNat y := fun z => e (Int.ofNat.inj z)
      refine ⟨fun r r' => ?_, ?_, fun h => ?_⟩
      · simp only [List.map_cons, List.cons_append]
        rw [HT.lexLt_cons, HT.lexLt_cons, if_neg e', if_neg e', if_neg (fun z => e' (by injection z))]
      · simp only [List.map_cons, List.cons_append]
        rw [HT.lexLt_cons, if_neg e']
        have : (Int.ofNat x < Int.ofNat y) ↔ x < y := by simp
        simp [List.cons_lt_cons_iff, e]
      · simp only [List.map_cons, List.cons_append] at h
        exact absurd (by injection h) e'
inductive Part (K : PySem.W.Frag) (H : Hp) : V → List Int → Nat → Prop
  | int (i : Int) : Part K H (.int i) [i] 0
  | str (x : Str) : Part K H (.str x) (tkey x) 1
  | tup {a : Addr} {ns : List Int} : H a = some (.tup (ns.map V.int)) → Part K H (.ref a) ns (ns.length + 2)
theorem Part.kin {K : PySem.W.Frag} {H : Hp} {x y : V} {c d : List Int} {k : Nat} (h : Part K H x c k) (h' : Part K H y d k) : Kin c d := by
  cases h with
  | int i => cases h' with
    | int j => exact kin_len rfl
  | str a => cases h' with
    | str b => exact (kin_txt _ _).1
  | tup e =>
    generalize hk : _ + 2 = k' at h'
    cases h' with
    | int j => omega
    | str b => omega
    | tup e' => exact kin_len (by omega)
theorem inls_inj : ∀ {a b : List Int}, a.map (Sum.inl : Int → Key) = b.map Sum.inl → a = b
  | [], [], _ => rfl
  | [], _ :: _, h => by cases h
  | _ :: _, [], h => by cases h
  | x :: a, y :: b, h => by
    rw [List.map_cons, List.map_cons] at h
    injection h with h1 h2
    rw [Sum.inl.inj h1, inls_inj h2]
section
variable {X : Cx} {pins : List (Addr × Obj)} {σ : St} {H : Hp} {s : Shared} {A : Around} {E : Value → Shared → Prop}
theorem key_ints {P : Program} {w : World} {h : Heap} {a : Addr} {ns : List Int} (ok : HOk P w H h) (e : H a = some (.tup (ns.map V.int))) : (tupleKind (mixKind P w)).is h (ns.map Sum.inl) a := by
  refine key_of ok ?_
  rw [e, List.map_map]; rfl
theorem part_eq {x y : V} {u v : Value} {c d : List Int} {k : Nat} {Q : Bool → Shared → Prop} (I : Inv X pins σ H s) (hu : A.units < cLine) (h : Part X.K H x c k) (h' : Part X.K H y d k) (r : RelV x u) (r' : RelV y v) (q : Q (decide (c = d)) s) :
    wpAny (model X.prog X.w) A (eqBool u v) Q E s := by
  cases h with
  | int i => cases h' with
    | int j =>
      obtain ⟨t, rfl⟩ := r
      obtain ⟨t', rfl⟩ := r'
      refine wpAny_eqBool_int ?_
      have e : (i == j) = decide ([i] = [j]) := by
        by_cases z : i = j <;> simp [z]
      rw [e]; exact q
  | str a => cases h' with
    | str b =>
      obtain ⟨t, rfl⟩ := r
      obtain ⟨t', rfl⟩ := r'
      refine wpAny_eqBool_str ?_
      have e : decide (a = b) = decide (tkey a = tkey b) := by
        by_cases z : a = b
        · simp [z]
        · have : tkey a ≠ tkey b := fun q => z (by
            have := (kin_txt _ _).2.2 q
            cases a; cases b; simp at this; rw [this])
          simp [z, this]
      rw [e]; exact q
  | @tup a _ e =>
    generalize hk : _ + 2 = k' at h'
    cases h' with
    | int j => omega
    | str b => omega
    | @tup b _ e' =>
      obtain rfl : u = .ref a := r
      obtain rfl : v = .ref b := r'
      refine wpAny_eqBool_tuple hu (key_ints I.hok e) (key_ints I.hok e') ?_
      have : (c.map (Sum.inl : Int → Key) = d.map Sum.inl) ↔ c = d := ⟨inls_inj, fun z => by rw [z]⟩
      simp only [this]; exact q
theorem part_lt {x y : V} {u v : Value} {c d : List Int} {k : Nat} {b : Bool} {Q : Bool → Shared → Prop} (I : Inv X pins σ H s) (hu : A.units < cLine) (h : Part X.K H x c k) (h' : Part X.K H y d k) (r : RelV x u) (r' : RelV y v) (hb : b = true → k < 2) (q : Q (HT.lexLt c d) s) :
    wpAny (model X.prog X.w) A (oneLt' b u v) Q E s := by
  cases h with
  | int i => cases h' with
    | int j =>
      obtain ⟨t, rfl⟩ := r
      obtain ⟨t', rfl⟩ := r'
      have e : HT.lexLt [i] [j] = decide (i < j) := by
        rw [HT.lexLt_cons]
        by_cases z : i = j
        · subst z; simp [HT.lexLt]
        · rw [if_neg z]
      rw [e] at q
      cases b with
      | true => exact oneLt_int q
      | false => exact kat_one _ _ (lt_int q)
  | str a => cases h' with
    | str z =>
      obtain ⟨t, rfl⟩ := r
      obtain ⟨t', rfl⟩ := r'
      have e : HT.lexLt (tkey a) (tkey z) = decide (a.cps.toList < z.cps.toList) := (kin_txt _ _).2.1
      rw [e] at q
      cases b with
      | true => exact oneLt_str q
      | false => exact kat_one _ _ (lt_str q)
  | @tup a _ e =>
    generalize hk : _ + 2 = k' at h' hb
    cases h' with
    | int j => omega
    | str z => omega
    | @tup z _ e' =>
      obtain rfl : u = .ref a := r
      obtain rfl : v = .ref z := r'
      cases b with
      | true => have := hb rfl; omega
      | false =>
        obtain ⟨_, its, r1, p1⟩ := (show ObjOk X.prog X.w H s.heap a (.tup (c.map V.int)) from I.hok a _ e)
        obtain ⟨_, its2, r2, p2⟩ := (show ObjOk X.prog X.w H s.heap z (.tup (d.map V.int)) from I.hok z _ e')
        exact kat_one _ _ (HT.lt_tupInts p1 p2 (intsAre_of r1) (intsAre_of r2) hu q)
inductive Parts (K : PySem.W.Frag) (H : Hp) : List V → List Int → List Nat → Prop
  | nil : Parts K H [] [] []
  | cons {x : V} {xs : List V} {c cs : List Int} {k : Nat} {ks : List Nat} : Part K H x c k → Parts K H xs cs ks → Parts K H (x :: xs) (c ++ cs) (k :: ks)
theorem lex_row {b : Bool} : ∀ {xs ys : List V} {us vs : List Value} {c d : List Int} {ks : List Nat} {i : Nat} {Q : Bool → Shared → Prop} {s : Shared}, Inv X pins σ H s → A.units < cLine → Parts X.K H xs c ks → Parts X.K H ys d ks → Vals xs us → Vals ys vs →
    (b = true → i = 0 → ∀ k, ks[0]? = some k → k < 2) → Q (HT.lexLt c d) s → KatLex X.prog X.w A b false Q (us.zip vs) i s
  | [], ys, us, vs, c, d, ks, i, Q, s, I, hu, h, h', r, r', hb, q => by
    cases h
    cases h'
    cases r
    exact kat_nil q
  | x :: xs, ys, us, vs, c, d, ks, i, Q, s, I, hu, h, h', r, r', hb, q => by
    cases h with
    | @cons _ _ c1 c2 k1 k2 p ps =>
    cases h' with
    | @cons _ _ d1 d2 _ _ p' ps' =>
    cases r with
    | cons r0 rs =>
    cases r' with
    | cons r0' rs' =>
    rw [List.zip_cons_cons]
    refine kat_cons (part_eq I hu p p' r0 r0' ?_)
    have e := p.kin p'
    cases z : decide (c1 = d1) with
    | true =>
      have z' := of_decide_eq_true z
      rw [e, if_pos z'] at q
      exact kat_yes (lex_row I hu ps ps' rs rs' (fun _ h => by omega) q)
    | false =>
      have z' := of_decide_eq_false z
      rw [e, if_neg z'] at q
      refine kat_no (part_lt I hu p p' r0 r0' ?_ q)
      intro hb'
      have := Bool.and_eq_true_iff.mp hb'
      exact hb this.1 (by simpa using this.2) _ rfl
end
end L2
namespace L2
open PySem PySem.Spec PySem.W PyProof.Rows
inductive Rank (K : PySem.W.Frag) (H : Hp) : List V → List (List Int) → Prop
  | flat {ys : List V} {cs : List (List Int)} (k : Nat) (hk : k < 2) (hl : cs.length = ys.length) (h : ∀ (i : Nat) (y : V) (c : List Int), ys[i]? = some y → cs[i]? = some c → Part K H y c k) : Rank K H ys cs
  | rows {ys : List V} {cs : List (List Int)} (k : Nat) (ks : List Nat) (hl : cs.length = ys.length) (h : ∀ (i : Nat) (y : V) (c : List Int), ys[i]? = some y → cs[i]? = some c → ∃ a xs, y = V.ref a ∧ H a = some (.tup xs) ∧ Parts K H xs c (k :: ks)) : Rank K H ys cs
theorem Rank.len {K : PySem.W.Frag} {H : Hp} {ys : List V} {cs : List (List Int)} (h : Rank K H ys cs) : cs.length = ys.length := by cases h <;> assumption
section
variable {X : Cx} {pins : List (Addr × Obj)} {σ : St} {H : Hp} {s : Shared} {A : Around} {E : Value → Shared → Prop}
theorem Inv.track {a : Addr} {o : HO} (I : Inv X pins σ H s) (fp : FpOk X pins H a) (h0 : X.s₀.heap.get? a = none) (new : ObjOk X.prog X.w (upd H a o) s.heap a o) : Inv X pins σ (upd H a o) s where
  ok := I.ok
  os := I.os
  bare := I.bare
  base := {
    keep := I.base.keep
    slot := I.base.slot
    free := fun b ob e n hx => by rw [upd_ne (by rintro rfl; rw [h0] at e; cases e)]; exact I.base.free b ob e n hx
    there := I.base.there
    tups := fun b xs e => by
      have := I.base.tups b xs e
      rw [upd_ne (ne_of_none this fp.1)]; exact this
    frzs := fun b ob xs e => by
      have := I.base.frzs b ob xs e
      rw [upd_ne (ne_of_none this fp.1)]; exact this
    tbls := fun b ps e => by
      obtain ⟨ps', this⟩ := I.base.tbls b ps e
      exact ⟨ps', by rw [upd_ne (ne_of_none this fp.1)]; exact this⟩ }
  loc := I.loc
  cell := I.cell
  free := by rw [upd_ne (Ne.symm fp.2.1)]; exact I.free
  freeC := fun x c e => by rw [upd_ne (fp.2.2.2.2.1 x c e)]; exact I.freeC x c e
  pin := fun p hp => by
    obtain ⟨a1, a2, a3⟩ := I.pin p hp
    exact ⟨a1, by rw [upd_ne (fp.2.2.2.2.2 p hp)]; exact a2, a3⟩
  hok := HOk.track I.hok fp.1 new
  len := I.len
theorem vals_get {ys : List V} {vs : List Value} {i : Nat} (r : Vals ys vs) (hi : i < ys.length) : ∃ y, ys[i]? = some y ∧ RelV y (vs.getD i Value.none) := by
  have e : ys[i]? = some ys[i] := List.getElem?_eq_getElem hi
  obtain ⟨u, h1, h2⟩ := r.get e
  refine ⟨_, e, ?_⟩
  rw [List.getD_eq_getElem?_getD, h1]
  exact h2
def tyK (k : Nat) : Value := if k = 0 then .type "int" else if k = 1 then .type "str" else .type "tuple"
theorem part_looks {M : Model} {y : V} {c : List Int} {k : Nat} {u : Value} (I : Inv X pins σ H s) (h : Part X.K H y c k) (r : RelV y u) : Looks M s.heap (typeOf u) (tyK k) := by
  cases h with
  | int i => obtain ⟨t, rfl⟩ := r; exact Looks.now
  | str x => obtain ⟨t, rfl⟩ := r; exact Looks.now
  | @tup a _ e =>
    obtain rfl : u = .ref a := r
    obtain ⟨_, its, r1, o, ho, hc, n, hd⟩ := (show ObjOk X.prog X.w H s.heap a (.tup (c.map V.int)) from I.hok a _ e)
    have : tyK (c.length + 2) = .type "tuple" := by unfold tyK; rw [if_neg (by omega), if_neg (by omega)]
    rw [this, ← hc]
    exact show Looks M s.heap (typeOf (.ref a)) o.cls from (Looks.ld ho).andThen .now
theorem tups_of : ∀ {ys : List V} {vs : List Value} {s : Shared}, Inv X pins σ H s → Vals ys vs → (k : Nat) → (∀ y ∈ ys, ∃ a xs c ks, y = V.ref a ∧ H a = some (.tup xs) ∧ Parts X.K H xs c (k :: ks)) →
    ∃ fs, KatTups s.heap vs fs ∧ fs.length = ys.length ∧ ∀ M, ∀ v ∈ fs, Looks M s.heap (typeOf v) (tyK k)
  | [], _, s, I, .nil, k, _ => ⟨[], KatTups.nil, rfl, fun _ v h => by cases h⟩
  | y :: ys, _, s, I, .cons r rs, k, h => by
    obtain ⟨fs, t, hl, hf⟩ := tups_of I rs k fun y hy => h y (List.mem_cons_of_mem _ hy)
    obtain ⟨a, xs, c, ks, rfl, ha, p⟩ := h y List.mem_cons_self
    obtain ⟨_, its, r1, o, ho, hc, n, hd⟩ := (show ObjOk X.prog X.w H s.heap a (.tup xs) from I.hok a _ ha)
    cases p with
    | @cons x xs' c1 c2 _ _ p ps =>
      cases r1 with
      | @cons _ u _ us r0 r0s =>
        cases (show _ = Value.ref a from r)
        refine ⟨u :: fs, KatTups.cons ho hc hd (by simp) t, by simp [hl], fun M v hv => ?_⟩
        rcases List.mem_cons.mp hv with rfl | q
        · exact part_looks I p r0
        · exact hf M v q
theorem rank_kind {ys : List V} {cs : List (List Int)} {vs : List Value} (h : Rank X.K H ys cs) (r : Vals ys vs) (h2 : 2 ≤ ys.length) : ∃ κ : SortKind,
    (∀ {σ : St} {pins : List (Addr × Obj)} {s : Shared} {A : Around} {E : Value → Shared → Prop} {Q : SortKind → Shared → Prop}, Inv X pins σ H s → Q κ s → wpAny (model X.prog X.w) A (keyKind' vs.toArray) Q E s) ∧
    ∀ {σ : St} {pins : List (Addr × Obj)} {s : Shared} {A : Around} {E : Value → Shared → Prop} {Q : Bool → Shared → Prop} (i j : Nat), A.units < cLine → i < ys.length → j < ys.length → Inv X pins σ H s → Q (HT.lexLt (cs.getD i []) (cs.getD j [])) s →
      wpAny (model X.prog X.w) A (keyLt' κ (vs.getD i Value.none) (vs.getD j Value.none)) Q E s := by
  have el := r.length
  cases h with
  | flat k hk hl h =>
    have hp : ∀ i, i < ys.length → ∃ y, ys[i]? = some y ∧ RelV y (vs.getD i Value.none) ∧ Part X.K H y (cs.getD i []) k := fun i hi => by
      obtain ⟨y, e, ry⟩ := vals_get r hi
      have ec : cs[i]? = some (cs.getD i []) := by simp [hl, hi]
      exact ⟨y, e, ry, h i y _ e ec⟩
    refine ⟨oneType', fun {σ pins s A E Q} I q => ?_, fun {σ pins s A E Q} i j hu hi hj I q => ?_⟩
    · refine kas_kind (T := tyK k) (by omega) (fun v hv => ?_) ?_ ?_ q
      · obtain ⟨i, hi, rfl⟩ := List.mem_iff_getElem.mp hv
        obtain ⟨y, e, ry, p⟩ := hp i (by omega)
        have : vs.getD i Value.none = vs[i] := by simp [hi]
        rw [this] at ry
        exact part_looks I p ry
      · have : k = 0 ∨ k = 1 := by omega
        rcases this with rfl | rfl <;> decide
      · have : k = 0 ∨ k = 1 := by omega
        rcases this with rfl | rfl <;> decide
    · obtain ⟨y, e, ry, p⟩ := hp i hi
      obtain ⟨y', e', ry', p'⟩ := hp j hj
      rw [keyLt'_oneType]
      exact part_lt I hu p p' ry ry' (fun _ => hk) q
  | rows k ks hl h =>
    have hp : ∀ i, i < ys.length → ∃ a xs, ys[i]? = some (.ref a) ∧ vs.getD i Value.none = .ref a ∧ H a = some (.tup xs) ∧ Parts X.K H xs (cs.getD i []) (k :: ks) := fun i hi => by
      obtain ⟨y, e, ry⟩ := vals_get r hi
      have ec : cs[i]? = some (cs.getD i []) := by simp [hl, hi]
      obtain ⟨a, xs, rfl, ha, p⟩ := h i y _ e ec
      exact ⟨a, xs, e, ry, ha, p⟩
    refine ⟨tuples' (tyK k != Value.type "tuple"), fun {σ pins s A E Q} I q => ?_, fun {σ pins s A E Q} i j hu hi hj I q => ?_⟩
    · obtain ⟨fs, t, hf, lk⟩ := tups_of I r k fun y hy => by
        obtain ⟨i, hi, rfl⟩ := List.mem_iff_getElem.mp hy
        obtain ⟨a, xs, e, _, ha, p⟩ := hp i hi
        rw [List.getElem?_eq_getElem hi] at e
        exact ⟨a, xs, _, ks, Option.some.inj e, ha, p⟩
      refine kat_kind t (by omega) (fun v hv => lk _ v hv) ?_ q
      unfold tyK
      split
      · decide
      · split <;> decide
    · obtain ⟨a, xs, e, ev, ha, p⟩ := hp i hi
      obtain ⟨a', xs', e', ev', ha', p'⟩ := hp j hj
      obtain ⟨_, its, r1, o, ho, hc, n, hd⟩ := (show ObjOk X.prog X.w H s.heap a (.tup xs) from I.hok a _ ha)
      obtain ⟨_, its', r1', o', ho', hc', n', hd'⟩ := (show ObjOk X.prog X.w H s.heap a' (.tup xs') from I.hok a' _ ha')
      rw [ev, ev']
      have lp : ∀ {xs : List V} {c : List Int} {ks : List Nat}, Parts X.K H xs c ks → xs.length = ks.length := fun {xs c ks} p => by
        induction p with
        | nil => rfl
        | cons _ _ ih => simp [ih]
      have sz : decide (its.toArray.size < its'.toArray.size) = false := by
        have := r1.length
        have := r1'.length
        have := lp p
        have := lp p'
        refine decide_eq_false ?_
        simp only [List.size_toArray]
        omega
      refine kat_lt ho hd ho' hd' ?_
      rw [sz]
      refine lex_row I hu p p' (by simpa using r1) (by simpa using r1') (fun hb _ k' hk' => ?_) q
      have : k' = k := by simpa using hk'.symm
      subst this
      by_cases z : k' < 2
      · exact z
      · exfalso
        have : tyK k' = .type "tuple" := by unfold tyK; rw [if_neg (by omega), if_neg (by omega)]
        rw [this] at hb
        exact absurd hb (by decide)
structure Order (n : Nat) (cs : List (List Int)) (q : List Nat) : Prop where
  pm : q.Perm (List.range n)
  up : ∀ i j, i ≤ j → j < n → HT.lexLt (cs.getD (q.getD j 0) []) (cs.getD (q.getD i 0) []) = false
theorem sort_core {l : Addr} {n : Nat} {vs : List Value} {ys : List V} {cs : List (List Int)} {P : PySem.Fin → Shared → Prop} (I : Inv X pins σ H s) (hu : A.units < cLine) (fp : FpOk X pins H l) (ho : s.heap.get? l = some (seqObj "list" vs.toArray n)) (r : Vals ys vs) (h64 : ys.length < 64) (rk : Rank X.K H ys cs)
    (h : ∀ (q : List Nat) (c : Nat) (s' : Shared), Order ys.length cs q → s'.heap.get? l = some (seqObj "list" (q.map fun i => vs.getD i Value.none).toArray c) → Inv X pins σ H s' → P (.done (.ret .none)) s') :
    wpAny (model X.prog X.w) A (Builtin.«list.sort» ⟨[.ref l], []⟩) P E s := by
  have el := r.length
  have hl : l < s.heap.objs.size := Heap.lt_size ho
  have line : (64 : Nat) ≤ sizeLine := by decide
  obtain ⟨e1, ho1⟩ : ∃ e1, (s.heap.update l (Obj.mapSeq fun _ => (#[] : Array Value))).get? l = some (seqObj "list" #[] e1) := ⟨_, get?_update_seq ho fun _ => #[]⟩
  have sb := Heap.SameBut.update s.heap l (Obj.mapSeq fun _ => (#[] : Array Value))
  generalize hh : ((s.heap.update l (Obj.mapSeq fun _ => (#[] : Array Value))).push (seqObj "tuple" vs.toArray 0)).push (seqObj "list" #[] 0) = h3
  have k3 : ∀ b o, (s.heap.update l (Obj.mapSeq fun _ => (#[] : Array Value))).get? b = some o → h3.get? b = some o := fun b o e => by
    rw [← hh]; exact Heap.get?_push_of_some _ (Heap.get?_push_of_some _ e)
  have ho3 : h3.get? l = some (seqObj "list" #[] e1) := k3 _ _ ho1
  have I3 : Inv X pins σ H { s with heap := h3 } := I.turned (t' := s.toks) (it := l) (fun b o hb e => k3 b o ((sb.2 b hb).trans e)) fp.1 fp.2.1 fp.2.2.2.1 fp.2.2.2.2.1 fp.2.2.2.2.2
  have fin : ∀ (s' : Shared) (q : List Nat), Inv X pins σ H s' → s'.heap.get? l = some (seqObj "list" #[] e1) → Order ys.length cs q → q.length = ys.length →
      wpAny (model X.prog X.w) A (seqEpoch l) (fun after s'' => wpAny (model X.prog X.w) A (Builtin.List.listUpdate (.ref l) fun _ => (q.map fun i => vs.getD i Value.none).toArray) (fun _ s3 => after = e1 ∧ P (.done (.ret .none)) s3) E s'') E s' := fun s' q I' ho' od lq => by
    refine seqEpoch_at ho' rfl ?_
    refine listUpdate_at ho' rfl ⟨rfl, ?_⟩ (Nat.zero_le _) (by simp only [List.size_toArray, List.length_map, lq]; omega)
    obtain ⟨c2, hc2⟩ : ∃ c2, (s'.heap.update l (Obj.mapSeq fun _ => (q.map fun i => vs.getD i Value.none).toArray)).get? l = some (seqObj "list" (q.map fun i => vs.getD i Value.none).toArray c2) := ⟨_, get?_update_seq ho' fun _ => _⟩
    have sb' := Heap.SameBut.update s'.heap l (Obj.mapSeq fun _ => (q.map fun i => vs.getD i Value.none).toArray)
    exact h q c2 _ od hc2 (I'.turned (t' := s'.toks) (it := l) (fun b o hb e => (sb'.2 b hb).trans e) fp.1 fp.2.1 fp.2.2.2.1 fp.2.2.2.2.1 fp.2.2.2.2.2)
  rw [list_sort_plain]
  refine wpAny_bind (listItems_at ho rfl (wpAny_bind (listUpdate_at ho rfl (wpAny_bind (seqEpoch_at ho1 rfl (wpAny_bind (wpAny_newTuple (wpAny_bind (wpAny_newList (wpAny_holding ?_) (Nat.zero_le _))) (by show vs.length ≤ _; omega))))) (by simp only [List.size_toArray]; omega) (Nat.zero_le _))))
  show wpAny _ A _ P E { s with heap := ((s.heap.update l (Obj.mapSeq fun _ => (#[] : Array Value))).push (seqObj "tuple" vs.toArray 0)).push (seqObj "list" #[] 0) }
  rw [hh]
  dsimp only
  by_cases h2 : vs.toArray.size < 2
  · rw [if_pos h2, if_pos h2]
    refine wpAny_bind (wpAny_pure ?_)
    rw [StateT.run_pure]
    refine wpAny_bind (wpAny_pure ?_)
    dsimp only
    have hs : vs.length < 2 := by simpa using h2
    have od : Order ys.length cs (List.range ys.length) := ⟨List.Perm.refl _, fun i j a b => by
      obtain rfl : i = j := by omega
      exact lexLt_self _⟩
    have out : (arrOf (SortSt.mk' general' (vs.toArray.zip vs.toArray) #[] 7 none)).map (·.2) = ((List.range ys.length).map fun i => vs.getD i Value.none).toArray := by
      have ea : arrOf (SortSt.mk' general' (vs.toArray.zip vs.toArray) #[] 7 none) = vs.toArray.zip vs.toArray := rfl
      rw [ea, el]
      match vs, hs with
      | [], _ => simp
      | [v], _ => simp
    rw [out]
    refine wpAny_bind (wpAny_mono (fin _ _ I3 ho3 od (by simp)) (fun after s'' hq => ?_) fun _ _ z => z)
    refine wpAny_bind (wpAny_mono hq (fun _ s3 hz => ?_) fun _ _ z => z)
    obtain ⟨rfl, hz⟩ := hz
    simp only [bne_self_eq_false, Bool.false_eq_true, if_false]
    exact wpAny_pure hz
  · rw [if_neg h2, if_neg h2]
    have hs : 2 ≤ vs.length := by simpa using h2
    obtain ⟨κ, kind, ask⟩ := rank_kind rk r (by omega)
    have I4 : Inv X ((l, seqObj "list" #[] e1) :: pins) σ H { s with heap := h3 } := I3.pins_of fun p hp => by
      rcases List.mem_cons.mp hp with rfl | hp
      · exact ⟨ho3, fp.1, fp.2.1, fp.2.2.1, fun v z => by cases z⟩
      · exact I3.pin p (List.mem_append_right _ hp)
    refine wpAny_bind (kind I3 ?_)
    have way := way_sort (n := vs.length) (O := lexO) (k := fun i => cs.getD i []) (by omega)
    have wp := Way.wp (G := fun s' => Inv X ((l, seqObj "list" #[] e1) :: pins) σ H s') (cmp := kas_ask X.prog X.w A κ vs)
      (R := fun p s' => (Pm vs.length p ∧ Up (O := lexO) (fun i => cs.getD i []) p vs.length) ∧ Inv X ((l, seqObj "list" #[] e1) :: pins) σ H s')
      (fun i j hi hj C s' g hc => ask i j hu (by omega) (by omega) g (hc s' g)) (fun a s' h1 h2 => ⟨h1, h2⟩) way I4
    refine wpAny_bind (wpAny_mono (kat_run (Q := fun st' s' => ∃ p : Array Nat, arrOf st' = p.map (kas_item (vs.toArray.zip vs.toArray)) ∧ failedOf st' = none ∧ (Pm vs.length p ∧ Up (O := lexO) (fun i => cs.getD i []) p vs.length) ∧ Inv X ((l, seqObj "list" #[] e1) :: pins) σ H s')
      rfl hs (by omega) (fun p st' s' _ a2 a3 a4 => ⟨p, a2, a3, a4⟩) wp) ?_ fun _ _ e => e)
    rintro ⟨⟨⟩, st'⟩ s' ⟨p, har, hf, ⟨pm, up⟩, I5⟩
    dsimp only
    rw [kat_snds rfl har]
    have ho5 := (I5.pin (l, seqObj "list" #[] e1) (List.mem_append_right _ List.mem_cons_self)).1
    have I6 : Inv X pins σ H s' := I5.pins_of fun p hp => I5.pin p (List.mem_append_right _ (List.mem_cons_of_mem _ hp))
    have od : Order ys.length cs p.toList := by
      refine ⟨?_, fun i j a b => ?_⟩
      · have := Array.perm_iff_toList_perm.mp pm.pm
        rw [el]
        simpa using this
      · have := up i j a (by omega)
        have g : ∀ i, p.toList.getD i 0 = p.getD i 0 := fun i => by
          rw [Array.getD_eq_getD_getElem?, List.getD_eq_getElem?_getD, Array.getElem?_toList]
        rw [g, g]
        exact this
    refine wpAny_bind (wpAny_mono (fin s' p.toList I6 ho5 od (by rw [Array.length_toList, pm.sz, el])) (fun after s'' hq => ?_) fun _ _ z => z)
    refine wpAny_bind (wpAny_mono hq (fun _ s3 hz => ?_) fun _ _ z => z)
    obtain ⟨rfl, hz⟩ := hz
    rw [hf]
    simp only [bne_self_eq_false, Bool.false_eq_true, if_false]
    exact wpAny_pure hz
end
end L2
namespace L2
open PySem PySem.Spec PySem.W PySem.Calls PyProof.Rows
theorem ref_none (d : Addr) : ¬ ((Value.ref d == Value.none) = true) := fun z => Bool.false_ne_true z
def Ents (h : Heap) (d : Addr) (es : Array DictEntry) (ep : Nat) : Prop := ∃ o, h.get? d = some o ∧ o.ExactDict ∧ o.data = .dict es ep
theorem Ents.keep {h h' : Heap} {d : Addr} {es : Array DictEntry} {ep : Nat} (x : Ents h d es ep) (k : ∀ o, h.get? d = some o → h'.get? d = some o) : Ents h' d es ep :=
  let ⟨o, a, b⟩ := x; ⟨o, k o a, b⟩
def itO (f0 f1 : Value) (d : Addr) (i n ep : Nat) (ok ov : Value) : Obj :=
  { cls := .type "dict_itemiterator", dict := none, data := .fields #[f0, f1, .ref d, .int i 0, .int n 0, .int ep 0, ok, ov], slots := #[] }
def ItAt (h : Heap) (it d S : Addr) (i n ep : Nat) : Prop := ∃ f0 f1 ok ov, h.get? it = some (itO f0 f1 d i n ep ok ov) ∧ (f0 = .none ∨ ∃ (a : Addr) (b : Bool) (oa : Obj), f0 = rawInt a ∧ f1 = .bool b ∧ h.get? a = some oa ∧ a ≠ it ∧ a ≠ S)
theorem ItAt.keep {h h' : Heap} {it d S : Addr} {i n ep : Nat} (x : ItAt h it d S i n ep) (k : ∀ b o, b ≠ S → h.get? b = some o → h'.get? b = some o) (hS : it ≠ S) : ItAt h' it d S i n ep := by
  obtain ⟨f0, f1, ok, ov, e, z⟩ := x
  exact ⟨f0, f1, ok, ov, k _ _ hS e, z.imp id fun ⟨a, b, oa, q1, q2, q3, q4, q5⟩ => ⟨a, b, oa, q1, q2, k _ _ q5 q3, q4, q5⟩⟩
section
variable {prog : Program} {w : World} {A : Around} {E : Value → Shared → Prop} {s : Shared}
theorem items_call {d : Addr} {es : Array DictEntry} {ep : Nat} {Q : Value → Shared → Prop} (hd : (d == sysModules) = false) (x : Ents s.heap d es ep)
    (h : Q (.ref s.heap.objs.size) { s with heap := s.heap.push { cls := .type "dict_items", data := .fields #[.ref d] } }) : wpAny (model prog w) A (call (.builtin "dict.items") [.ref d]) Q E s := by
  obtain ⟨o, ho, ex, _⟩ := x
  have ty : s.TypeIs (.ref d) "dict" := ⟨o, ho, ex.1⟩
  refine wpAny_call_entry PySem.F.slot_dict_items ty PySem.F.entry_dict_items ?_ (PySem.F.args_dict_items_1 _)
  unfold Builtin.«dict.items» Builtin.Dict.noArgs
  refine wpAny_bind (wpAny_bind (wpAny_notOrdered_dict ty (show wpAny _ _ (pure d) _ _ s from wpAny_pure ?_)))
  show wpAny _ _ (Builtin.Dict.showsAll d >>= _) _ _ s
  unfold Builtin.Dict.showsAll
  rw [if_neg (by rw [hd]; decide)]
  exact wpAny_bind (wpAny_pure (wpAny_bind (wpAny_newObj_type (wpAny_pure ⟨_, rfl, h⟩))))
theorem items_iter {v d : Addr} {es : Array DictEntry} {ep : Nat} {Q : Value → Shared → Prop} (hv : s.heap.IsItemsView v d) (x : Ents s.heap d es ep)
    (h : Q (.ref s.heap.objs.size) { s with heap := s.heap.push (itO .none (.bool false) d 0 es.size ep .none .none) }) : wpAny (model prog w) A (pyIter (.ref v)) Q E s := by
  obtain ⟨o1, g1, c1, d1⟩ := id hv
  obtain ⟨o, ho, ex, hdat⟩ := x
  refine wpAny_pyIter_slot hv.typeIs PySem.F.slot_dict_items_iter (wpAny_call_entry PySem.F.slot_dict_items_iter hv.typeIs PySem.F.entry_dict_items_iter ?_ (PySem.F.args_dict_items_iter_1 _))
  unfold Builtin.«dict_items.__iter__» Builtin.Dict_items.dictOf Builtin.Dict_items.newIterator
  refine wpAny_bind (wpAny_pure (wpAny_bind (wpAny_bind (wpAny_field g1 d1 (x := .ref d) rfl (wpAny_pure (wpAny_bind (wpAny_bind (wpAny_dictEntries ho hdat (wpAny_bind (wpAny_dictEpoch ho hdat ?_))))))))))
  simp only [show Builtin.Dict_items.ownsTuple "dict_itemiterator" = true from by decide, if_true]
  refine wpAny_newObj_type (wpAny_pure ⟨_, rfl, "dict_itemiterator", _, ⟨_, Heap.get?_push_size _ rfl, rfl⟩, PySem.F.slot_dict_itemiterator_next.lookup, ?_⟩)
    (by simp only [sizeOk, Builtin.Dict_items.ownedTupleFields, List.size_toArray, List.length_append, List.length_cons, List.length_nil, sizeLine_eq]; omega)
  simpa [rawInt, itO, Builtin.Dict_items.ownedTupleFields] using h
theorem items_next {it d S : Addr} {i ep : Nat} {es : Array DictEntry} {Q : Option Value → Shared → Prop} (g : ItAt s.heap it d S i es.size ep) (x : Ents s.heap d es ep) (hS : S < s.heap.objs.size) (hi : i < es.size)
    (h : ∀ h' : Heap, ItAt h' it d S (i + 1) es.size ep → h'.get? s.heap.objs.size = some { cls := .type "tuple", data := .seq #[es[i].key, es[i].val] } → h'.objs.size = s.heap.objs.size + 1 →
      (∀ b o, b ≠ it → s.heap.get? b = some o → h'.get? b = some o) → Q (some (.ref s.heap.objs.size)) { s with heap := h' }) : wpAny (model prog w) A (pyNext (.ref it)) Q E s := by
  obtain ⟨f0, f1, ok, ov, e0, ff⟩ := g
  obtain ⟨o, ho, ex, hdat⟩ := x
  obtain ⟨hp, gs, dr, tk, os⟩ := s
  have ty : Shared.TypeIs ⟨hp, gs, dr, tk, os⟩ (.ref it) "dict_itemiterator" := ⟨_, e0, rfl⟩
  have own : Builtin.Dict_items.ownsTuple "dict_itemiterator" = true := by decide
  have lt : it < hp.objs.size := Heap.lt_size e0
  unfold pyNext
  refine wpAny_bind (wpAny_attempt (wpAny_callSpecial?_slot (name := Str.ofString "__next__") ty PySem.F.slot_dict_itemiterator_next (wpAny_call_entry PySem.F.slot_dict_itemiterator_next ty PySem.F.entry_dict_itemiterator_next ?_ (PySem.F.args_dict_itemiterator_next_1 _))))
  refine wpAny_bind (wpAny_pure (wpAny_bind (wpAny_bind (wpAny_bind (wpAny_typeNameOfWhole_itemiter ty (wpAny_pure (wpAny_bind (wpAny_fieldsOf e0 rfl ?_))))))))
  simp only [own, if_true]
  show wpAny _ _ (if (Value.ref d == Value.none) = true then _ else _) _ _ _
  rw [if_neg (ref_none d)]
  refine wpAny_bind (wpAny_pure (wpAny_bind (wpAny_dictEntries ho hdat ?_)))
  rw [if_neg (by simp)]
  refine wpAny_bind (wpAny_pure (wpAny_bind (wpAny_dictEpoch ho hdat ?_)))
  rw [if_neg (by simp)]
  refine wpAny_pure ?_
  simp only [show ¬ ((i : Int) < 0) by omega, if_false, Int.toNat_natCast, Array.getElem?_eq_getElem hi]
  refine wpAny_bind (wpAny_bind (wpAny_typeNameOfWhole_itemiter ty (wpAny_pure (wpAny_bind (wpAny_isOneOf_itemiter ty ?_)))))
  show wpAny _ _ (setField (.ref it) 3 (rawInt ((i : Int) + 1)) >>= _) _ _ ⟨hp, gs, dr, tk, os⟩
  refine wpAny_bind (wpAny_setField_rec e0 (by simp) fun h1 e1 b1 => ?_)
  have e1' : h1.get? it = some (itO f0 f1 d (i + 1) es.size ep ok ov) := by
    have z : ((i + 1 : Nat) : Int) = (i : Int) + 1 := by omega
    unfold itO
    rw [z]
    simpa [rawInt] using e1
  replace b1 : Heap.SameBut it hp h1 := b1
  have ty1 : Shared.TypeIs ⟨h1, gs, dr, tk, os⟩ (.ref it) "dict_itemiterator" := ⟨_, e1', rfl⟩
  refine wpAny_bind (wpAny_holding (wpAny_bind (wpAny_isOneOf_itemiter ty1 (wpAny_bind (wpAny_isOneOf_itemiter ty1 ?_)))))
  show wpAny _ _ (Builtin.Dict_items.pairFromOwner (.ref it) 6 es[i].key es[i].val) _ _ ⟨h1, gs, dr, tk, os⟩
  have z1 : h1.objs.size = hp.objs.size := b1.1
  unfold Builtin.Dict_items.pairFromOwner
  refine wpAny_bind (wpAny_newTuple ?_)
  generalize eh2 : h1.push { cls := .type "tuple", data := .seq [es[i].key, es[i].val].toArray } = h2
  have e2 : h2.get? it = some (itO f0 f1 d (i + 1) es.size ep ok ov) := by rw [← eh2]; exact Heap.get?_push_of_some _ e1'
  have t2 : h2.get? hp.objs.size = some { cls := .type "tuple", data := .seq #[es[i].key, es[i].val] } := by rw [← eh2, ← z1]; exact Heap.get?_push_size _ rfl
  have z2 : h2.objs.size = hp.objs.size + 1 := by rw [← eh2, Heap.size_push, z1]
  have k2 : ∀ b o, b ≠ it → hp.get? b = some o → h2.get? b = some o := fun b o hb q => by rw [← eh2]; exact Heap.get?_push_of_some _ (b1.extBut b o hb q)
  have done : ∀ h3 : Heap, (∃ f0 f1 ok ov, h3.get? it = some (itO f0 f1 d (i + 1) es.size ep ok ov) ∧ (f0 = .none ∨ ∃ (a : Addr) (b : Bool) (oa : Obj), f0 = rawInt a ∧ f1 = .bool b ∧ h3.get? a = some oa ∧ a ≠ it ∧ a ≠ S)) → Heap.SameBut it h2 h3 → Q (some (.ref hp.objs.size)) ⟨h3, gs, dr, tk, os⟩ := fun h3 q1 q2 =>
    h h3 q1 (q2.extBut _ _ (Nat.ne_of_gt lt) t2) (by show h3.objs.size = hp.objs.size + 1; rw [q2.1, z2]) fun b o hb q => q2.extBut b o hb (k2 b o hb q)
  show wpAny _ _ (Builtin.Dict_items.ownedTupleIsFree (.ref it) >>= _) _ _ ⟨h2, gs, dr, tk, os⟩
  rw [z1]
  unfold Builtin.Dict_items.ownedTupleIsFree
  rcases ff with rfl | ⟨a, b, oa, rfl, rfl, ha, hai, haS⟩
  · refine wpAny_bind (wpAny_bind (wpAny_field e2 rfl (x := .none) rfl (wpAny_pure ?_)))
    simp only [if_true]
    refine wpAny_bind (wpAny_field e2 rfl (x := ok) rfl (wpAny_bind (wpAny_field e2 rfl (x := ov) rfl (wpAny_bind (wpAny_setField_rec e2 (by simp) fun h3 e3 b3 => ?_)))))
    replace b3 : Heap.SameBut it h2 h3 := b3
    refine wpAny_bind (wpAny_setField_rec e3 (by simp) fun h4 e4 b4 => wpAny_bind (wpAny_setField_rec e4 (by simp) fun h5 e5 b5 => wpAny_bind (wpAny_setField_rec e5 (by simp) fun h6 e6 b6 => ?_)))
    replace b4 : Heap.SameBut it h3 h4 := b4
    replace b5 : Heap.SameBut it h4 h5 := b5
    replace b6 : Heap.SameBut it h5 h6 := b6
    have sb : Heap.SameBut it h2 h6 := ⟨by rw [b6.1, b5.1, b4.1, b3.1], fun c hc => (b6.2 c hc).trans ((b5.2 c hc).trans ((b4.2 c hc).trans (b3.2 c hc)))⟩
    refine wpAny_bind (wpAny_letGo (wpAny_pure (wpAny_pure ⟨_, rfl, wpAny_pure (done h6 ⟨_, _, _, _, e6, .inr ⟨hp.objs.size, false, _, rfl, rfl, sb.extBut _ _ (Nat.ne_of_gt lt) t2, Nat.ne_of_gt lt, Nat.ne_of_gt hS⟩⟩ sb)⟩)))
  · refine wpAny_bind (wpAny_bind (wpAny_field e2 rfl (x := rawInt a) rfl ?_))
    show wpAny _ _ (loadIfAlive ((a : Int).toNat) >>= _) _ _ _
    rw [Int.toNat_natCast]
    have ha2 := k2 a oa hai ha
    refine wpAny_bind (kdx_alive ha2 ?_)
    simp only [Option.isNone_some, Bool.false_eq_true, if_false]
    refine wpAny_bind (wpAny_field e2 rfl (x := .bool b) rfl ?_)
    cases b with
    | true =>
      rw [if_neg (by decide)]
      refine wpAny_pure ?_
      simp only [Bool.false_eq_true, if_false]
      exact wpAny_pure (wpAny_pure ⟨_, rfl, wpAny_pure (done h2 ⟨_, _, _, _, e2, .inr ⟨a, true, oa, rfl, rfl, ha2, hai, haS⟩⟩ (Heap.SameBut.refl _ _))⟩)
    | false =>
      rw [if_pos (by decide)]
      refine wpAny_bind (wpAny_setField_rec e2 (by simp) fun h3 e3 b3 => wpAny_pure ?_)
      replace b3 : Heap.SameBut it h2 h3 := b3
      simp only [Bool.false_eq_true, if_false]
      exact wpAny_pure (wpAny_pure ⟨_, rfl, wpAny_pure (done h3 ⟨_, _, _, _, e3, .inr ⟨a, true, oa, rfl, rfl, b3.extBut _ _ hai ha2, hai, haS⟩⟩ b3)⟩)
theorem items_stop {it d S : Addr} {i ep : Nat} {es : Array DictEntry} {Q : Option Value → Shared → Prop} (hh : A.handled = none) (g : ItAt s.heap it d S i es.size ep) (x : Ents s.heap d es ep) (hi : es.size ≤ i)
    (h : ∀ h' : Heap, Heap.ExtBut it s.heap h' → Q none { s with heap := h' }) : wpAny (model prog w) A (pyNext (.ref it)) Q E s := by
  obtain ⟨f0, f1, ok, ov, e0, _⟩ := g
  obtain ⟨o, ho, ex, hdat⟩ := x
  have ty : s.TypeIs (.ref it) "dict_itemiterator" := ⟨_, e0, rfl⟩
  have own : Builtin.Dict_items.ownsTuple "dict_itemiterator" = true := by decide
  unfold pyNext
  refine wpAny_bind (wpAny_attempt (wpAny_callSpecial?_slot (name := Str.ofString "__next__") ty PySem.F.slot_dict_itemiterator_next (wpAny_call_entry PySem.F.slot_dict_itemiterator_next ty PySem.F.entry_dict_itemiterator_next ?_ (PySem.F.args_dict_itemiterator_next_1 _))))
  refine wpAny_bind (wpAny_pure (wpAny_bind (wpAny_bind (wpAny_bind (wpAny_typeNameOfWhole_itemiter ty (wpAny_pure (wpAny_bind (wpAny_fieldsOf e0 rfl ?_))))))))
  simp only [own, if_true]
  show wpAny _ _ (if (Value.ref d == Value.none) = true then _ else _) _ _ s
  rw [if_neg (ref_none d)]
  refine wpAny_bind (wpAny_pure (wpAny_bind (wpAny_dictEntries ho hdat ?_)))
  rw [if_neg (by simp)]
  refine wpAny_bind (wpAny_pure (wpAny_bind (wpAny_dictEpoch ho hdat ?_)))
  rw [if_neg (by simp)]
  refine wpAny_pure ?_
  simp only [show ¬ ((i : Int) < 0) by omega, if_false, Int.toNat_natCast, Array.getElem?_eq_none hi]
  refine wpAny_bind (wpAny_bind (wpAny_typeNameOfWhole_itemiter ty (wpAny_pure ?_)))
  show wpAny _ _ (setField (.ref it) 2 .none >>= _) _ _ s
  refine wpAny_bind (wpAny_setField e0 rfl (by simp) ?_)
  show wpAny _ _ (newExc (.type "StopIteration") [] >>= _) _ _ _
  simp only [newExc, newTuple]
  refine wpAny_bind (wpAny_bind (wpAny_newObj_type (wpAny_bind (m := firstArgMember _ _) (wpAny_of_eq (a := Value.none) (by first | rfl | (simp only [firstArgMember]; rfl)) (wpAny_newObj_type ?_ (by size_fits)))) (by size_fits)))
  simp only [raiseNew]
  refine wpAny_bind (wpAny_handled ?_)
  rw [show A.in1.handled = none from hh]
  refine wpAny_bind (wpAny_pure (wpAny_throw ?_))
  refine wpAny_bind (wpAny_isInstance (T := "StopIteration") (b := true) ⟨_, Heap.get?_push_size _ rfl, rfl⟩ isSubtype_stop (wpAny_pure ?_))
  exact h _ (((Heap.SameBut.update ..).extBut.push _).push _)
structure Prs (es : Array DictEntry) (lo : Addr) (h : Heap) (as : List Addr) : Prop where
  lt : ∀ a ∈ as, lo < a ∧ a < h.objs.size
  up : as.Pairwise (· < ·)
  ix : ∀ (j : Nat) (a : Addr), as[j]? = some a → ∃ e, es[j]? = some e ∧ h.get? a = some { cls := .type "tuple", data := .seq #[e.key, e.val] }
theorem items_loop {S I d : Addr} {es : Array DictEntry} {ep : Nat} {R : Result → Shared → Prop} (hh : A.handled = none) (hSI : S < I) (hSd : d ≠ S) (hId : d ≠ I) (hn : es.size ≤ sizeLine) (res : Value) {h0 : Heap}
    (hR : ∀ h' tk (acc : Array Value) c as, (∀ b o, b ≠ S → b ≠ I → h0.get? b = some o → h'.get? b = some o) → h'.get? S = some { cls := .type "list", data := .seq acc c } → as.length = es.size → Prs es I h' as → acc.toList = as.map Value.ref → R (.ok (.ret res)) { s with heap := h', toks := tk }) :
    ∀ (k i : Nat) (h : Heap) (tk c : Nat) (acc : Array Value) (as : List Addr), es.size = i + k → ItAt h I d S i es.size ep → Ents h d es ep → (∀ b o, b ≠ S → b ≠ I → h0.get? b = some o → h.get? b = some o) → h.get? S = some { cls := .type "list", data := .seq acc c } →
      acc.toList = as.map Value.ref → as.length = i → Prs es I h as → codeAny (model prog w) A (.builtin "list.extend.loop" ⟨[.ref S, .ref I, res], []⟩) R { s with heap := h, toks := tk }
  | 0, i, h, tk, c, acc, as, hk, g, x, kp, hS, ha, hl, pr => by
    refine codeAny_builtin PySem.F.entry_extend_loop ?_
    rw [Around.under_plainId PySem.F.plain_extend_loop _]
    show wpAny _ A.in1 (pyNext (.ref I) >>= _) _ _ _
    refine wpAny_bind (items_stop (s := { s with heap := h, toks := tk }) (A := A.in1) hh g x (by omega) fun h' he => wpAny_pure ?_)
    refine hR h' tk acc c as (fun b o q1 q2 e => he b o q2 (kp b o q1 q2 e)) (he S _ (Nat.ne_of_lt hSI) hS) (by omega) ⟨fun a m => ⟨(pr.lt a m).1, ?_⟩, pr.up, fun j a m => ?_⟩ ha
    · obtain ⟨j, m'⟩ := List.mem_iff_getElem?.mp m
      obtain ⟨e, _, q⟩ := pr.ix j a m'
      exact Heap.lt_size (he a _ (Nat.ne_of_gt (pr.lt a m).1) q)
    · obtain ⟨e, q1, q2⟩ := pr.ix j a m
      exact ⟨e, q1, he a _ (Nat.ne_of_gt (pr.lt a (List.mem_of_getElem? m)).1) q2⟩
  | k + 1, i, h, tk, c, acc, as, hk, g, x, kp, hS, ha, hl, pr => by
    have hi : i < es.size := by omega
    have ne : S ≠ I := Nat.ne_of_lt hSI
    have sl : S < h.objs.size := Heap.lt_size hS
    have il : I < h.objs.size := let ⟨_, _, _, _, e, _⟩ := g; Heap.lt_size e
    have za : acc.size = i := by rw [← Array.length_toList, ha, List.length_map, hl]
    refine codeAny_builtin PySem.F.entry_extend_loop ?_
    rw [Around.under_plainId PySem.F.plain_extend_loop _]
    show wpAny _ A.in1 (pyNext (.ref I) >>= _) _ _ _
    refine wpAny_bind (items_next (s := { s with heap := h, toks := tk }) g x sl hi fun h' g' ht hz kp' => ?_)
    dsimp only at ht hz kp' ⊢
    have hS' := kp' S _ ne hS
    generalize eu : h'.update S (Obj.mapSeq (·.push (Value.ref h.objs.size))) = h2
    have up : ∀ b o, b ≠ S → h'.get? b = some o → h2.get? b = some o := fun b o hb e => by rw [← eu]; exact (Heap.get?_update_other _ _ (Ne.symm hb)).trans e
    have ht2 := up _ _ (Nat.ne_of_gt sl) ht
    show wpAny _ A.in1 (updateSeq S (·.push (Value.ref h.objs.size)) >>= _) _ _ _
    refine wpAny_bind (wpAny_updateSeq hS' rfl (wpAny_pure ⟨plainId_quiet PySem.F.plain_extend_loop _, ?_⟩) (by rw [za]; omega) (by show (acc.push _).size ≤ _; rw [Array.size_push, za]; omega))
    rw [eu]
    refine items_loop hh hSI hSd hId hn res hR k (i + 1) h2 tk _ (acc.push (.ref h.objs.size)) (as ++ [h.objs.size]) (by omega) (g'.keep up (Ne.symm ne)) (x.keep fun o e => up d o hSd (kp' d o hId e))
      (fun b o q1 q2 e => up b o q1 (kp' b o q2 (kp b o q1 q2 e))) (by rw [← eu]; exact Heap.get?_update_self _ hS' rfl) (by rw [Array.toList_push, ha, List.map_append]; rfl) (by rw [List.length_append, hl]; rfl) ⟨fun a m => ?_, ?_, fun j a m => ?_⟩
    · rcases List.mem_append.mp m with m | m
      · have := pr.lt a m
        have l2 := Heap.lt_size ht2
        exact ⟨this.1, Nat.lt_trans this.2 l2⟩
      · rw [List.mem_singleton.mp m]
        exact ⟨il, Heap.lt_size ht2⟩
    · refine List.pairwise_append.mpr ⟨pr.up, List.pairwise_singleton _ _, fun a m b m' => ?_⟩
      rw [List.mem_singleton.mp m']
      exact (pr.lt a m).2
    · rcases Nat.lt_or_ge j as.length with q | q
      · rw [List.getElem?_append_left q] at m
        obtain ⟨e, q1, q2⟩ := pr.ix j a m
        have := (pr.lt a (List.mem_of_getElem? m)).1
        exact ⟨e, q1, up a _ (Nat.ne_of_gt (Nat.lt_trans hSI this)) (kp' a _ (Nat.ne_of_gt this) q2)⟩
      · rw [List.getElem?_append_right q] at m
        have j0 : j = i := by
          have := (List.getElem?_eq_some_iff.mp m).1
          simp at this
          omega
        subst j0
        have : h.objs.size = a := by rw [hl] at m; simpa using m
        subst this
        exact ⟨es[j], Array.getElem?_eq_getElem hi, ht2⟩
theorem items_extend {r d S : Addr} {es : Array DictEntry} {ep : Nat} {R : Result → Shared → Prop} (hh : A.handled = none) (hv : s.heap.IsItemsView r d) (x : Ents s.heap d es ep) (hSr : S ≠ r) (hSd : d ≠ S) (res : Value) (c0 : Nat) (hS : s.heap.get? S = some { cls := .type "list", data := .seq #[] c0 }) (hn : es.size ≤ sizeLine)
    (hR : ∀ h' tk (acc : Array Value) c as, (∀ b o, b ≠ S → s.heap.get? b = some o → h'.get? b = some o) → h'.get? S = some { cls := .type "list", data := .seq acc c } → as.length = es.size → Prs es s.heap.objs.size h' as → acc.toList = as.map Value.ref → R (.ok (.ret res)) { s with heap := h', toks := tk }) :
    wpAny (model prog w) A.in1 (Builtin.List.listExtendWith (.ref S) (.ref r) res) (fun fin s' => match fin with | .done f => R (.ok f) s' | .again c' => c'.quiet = true ∧ codeAny (model prog w) A c' R s') (fun e s' => R (.error e) s') s := by
  have sl : S < s.heap.objs.size := Heap.lt_size hS
  have dl : d < s.heap.objs.size := let ⟨_, e, _⟩ := x; Heap.lt_size e
  have go : ∀ (h : Heap) (c1 tk : Nat), (∀ b o, b ≠ S → (s.heap.push (itO .none (.bool false) d 0 es.size ep .none .none)).get? b = some o → h.get? b = some o) → h.get? S = some { cls := .type "list", data := .seq #[] c1 } →
      codeAny (model prog w) A (.builtin "list.extend.loop" ⟨[.ref S, .ref s.heap.objs.size, res], []⟩) R { s with heap := h, toks := tk } := fun h c1 tk kp h1 =>
    items_loop (s := s) (h0 := s.heap) hh sl hSd (Nat.ne_of_lt dl) hn res (fun h' tk' acc c as k' => hR h' tk' acc c as fun b o hb e => k' b o hb (Nat.ne_of_lt (Heap.lt_size e)) e) es.size 0 h tk c1 #[] [] (by omega)
      ⟨_, _, _, _, kp _ _ (Nat.ne_of_gt sl) (Heap.get?_push_size _ rfl), .inl rfl⟩ (x.keep fun o e => kp d o hSd (Heap.get?_push_of_some _ e)) (fun b o hb _ e => kp b o hb (Heap.get?_push_of_some _ e)) h1 rfl rfl ⟨(fun a m => nomatch m), List.Pairwise.nil, (fun j a m => by simp at m)⟩
  unfold Builtin.List.listExtendWith
  refine wpAny_bind (wpAny_typeOf (T := "dict_items") hv.typeIs ?_)
  simp only [show Builtin.List.listSameRef (.ref S) (.ref r) = false by simp [Builtin.List.listSameRef, hSr], show (Value.type "dict_items" == Value.type "list") = false by decide, show (Value.type "dict_items" == Value.type "tuple") = false by decide, Bool.or_false, Bool.false_eq_true, if_false]
  refine wpAny_bind (items_iter hv x (wpAny_bind (wpAny_holding (kdx_hint (let ⟨o, ho, hc, _⟩ := hv; ⟨o, Heap.get?_push_of_some _ ho, hc⟩) ?_))))
  have h1 := Heap.get?_push_of_some (itO .none (.bool false) d 0 es.size ep .none .none) hS
  refine wpAny_ite_split (fun _ => ?_) (fun _ => wpAny_pure ⟨plainId_quiet PySem.F.plain_extend_loop _, go _ c0 _ (fun b o _ e => e) h1⟩)
  refine wpAny_bind (wpAny_rule (wpAny_bind ?_))
  show wpAny _ _ (updateSeq S (·.push .none) >>= fun _ => updateSeq S (·.pop)) _ _ _
  have h2 := Heap.get?_update_self (Obj.mapSeq (·.push Value.none)) h1 rfl
  have h3 := Heap.get?_update_self (Obj.mapSeq (·.pop)) h2 rfl
  refine wpAny_bind (wpAny_updateSeq h1 rfl (wpAny_updateSeq (hz := by seq_fits) h2 rfl (wpAny_pure ⟨plainId_quiet PySem.F.plain_extend_loop _, go _ _ _ (fun b o hb e => ?_) h3⟩)))
  exact (Heap.get?_update_other _ _ (Ne.symm hb)).trans ((Heap.get?_update_other _ _ (Ne.symm hb)).trans e)
theorem items_collect {r d : Addr} {es : Array DictEntry} {ep : Nat} {R : List Value → Shared → Prop} (hh : A.handled = none) (hv : s.heap.IsItemsView r d) (x : Ents s.heap d es ep) (hn : es.size ≤ sizeLine)
    (h : ∀ (h' : Heap) (tk : Nat) (as : List Addr), (∀ b o, s.heap.get? b = some o → h'.get? b = some o) → as.length = es.size → Prs es s.heap.objs.size h' as → R (as.map Value.ref) { s with heap := h', toks := tk }) :
    wpAny (model prog w) A (collect (.ref r)) R E s := by
  have rl : r < s.heap.objs.size := let ⟨_, e, _⟩ := hv; Heap.lt_size e
  have dl : d < s.heap.objs.size := let ⟨_, e, _⟩ := x; Heap.lt_size e
  have hS : (s.heap.push { cls := .type "list", data := .seq ([] : List Value).toArray }).get? s.heap.objs.size = some { cls := .type "list", data := .seq #[] } := Heap.get?_push_size _ rfl
  unfold collect
  refine wpAny_bind (wpAny_runValue (codeAny_builtin entry_proto_collect' ?_))
  rw [Around.under_plainId PySem.F.plain_proto_collect _]
  show wpAny _ A.in1 (newList [] >>= fun l => again (.builtin "list.__iadd__" ⟨[l, .ref r], []⟩)) _ _ s
  refine wpAny_bind (wpAny_newObj_type (wpAny_pure ⟨plainId_quiet PySem.F.plain_list_iadd _, codeAny_builtin entry_list_iadd' ?_⟩))
  rw [Around.under_plainId PySem.F.plain_list_iadd _]
  show wpAny _ A.in1 (Builtin.List.listExtendWith (.ref s.heap.objs.size) (.ref r) (.ref s.heap.objs.size)) _ _ _
  have key := items_extend (prog := prog) (w := w) (A := A) (s := { s with heap := s.heap.push { cls := .type "list", data := .seq ([] : List Value).toArray } }) (es := es) (ep := ep) (S := s.heap.objs.size)
    (R := fun q s' => ∃ (h' : Heap) (tk : Nat) (acc : Array Value) (c : Nat) (as : List Addr), q = .ok (.ret (.ref s.heap.objs.size)) ∧ s' = { s with heap := h', toks := tk } ∧ (∀ b o, s.heap.get? b = some o → h'.get? b = some o) ∧
      h'.get? s.heap.objs.size = some { cls := .type "list", data := .seq acc c } ∧ as.length = es.size ∧ Prs es s.heap.objs.size h' as ∧ acc.toList = as.map Value.ref)
    hh (let ⟨o, ho, y⟩ := hv; ⟨o, Heap.get?_push_of_some _ ho, y⟩) (x.keep fun o e => Heap.get?_push_of_some _ e) (Nat.ne_of_gt rl) (Nat.ne_of_lt dl) (.ref s.heap.objs.size) 0 hS hn
    fun h' tk acc c as k1 k2 k3 k4 k5 => ⟨h', tk, acc, c, as, rfl, rfl, fun b o e => k1 b o (Nat.ne_of_lt (Heap.lt_size e)) (Heap.get?_push_of_some _ e), k2, k3,
      ⟨fun a m => ⟨by have := (k4.lt a m).1; rw [Heap.size_push] at this; exact Nat.lt_of_succ_lt this, (k4.lt a m).2⟩, k4.up, k4.ix⟩, k5⟩
  have out : ∀ {s' : Shared} {q : Result}, (∃ (h' : Heap) (tk : Nat) (acc : Array Value) (c : Nat) (as : List Addr), q = .ok (.ret (.ref s.heap.objs.size)) ∧ s' = { s with heap := h', toks := tk } ∧ (∀ b o, s.heap.get? b = some o → h'.get? b = some o) ∧
      h'.get? s.heap.objs.size = some { cls := .type "list", data := .seq acc c } ∧ as.length = es.size ∧ Prs es s.heap.objs.size h' as ∧ acc.toList = as.map Value.ref) → ∃ as : List Addr, q = .ok (.ret (.ref s.heap.objs.size)) ∧ (∃ o acc c, s'.heap.get? s.heap.objs.size = some o ∧ o.data = .seq acc c ∧ acc.toList = as.map Value.ref) ∧ R (as.map Value.ref) s' := by
    rintro s' q ⟨h', tk, acc, c, as, rfl, rfl, k1, k2, k3, k4, k5⟩
    exact ⟨as, rfl, ⟨_, acc, c, k2, rfl, k5⟩, h h' tk as k1 k3 k4⟩
  refine wpAny_mono key (fun fin s' y => ?_) fun e s' y => ?_
  · cases fin with
    | done f =>
      obtain ⟨as, e, ⟨o, acc, c, ho, hd, ha⟩, q⟩ := out y
      cases e
      show wpAny _ A (load s.heap.objs.size >>= _) _ _ _
      refine wpAny_bind (wpAny_load ho ?_)
      rw [hd]
      refine wpAny_pure ?_
      show R acc.toList _
      rw [ha]; exact q
    | again c1 =>
      refine ⟨y.1, codeAny_mono y.2 fun q s2 z => ?_⟩
      obtain ⟨as, rfl, ⟨o, acc, c, ho, hd, ha⟩, q⟩ := out z
      show wpAny _ A (load s.heap.objs.size >>= _) _ _ _
      refine wpAny_bind (wpAny_load ho ?_)
      rw [hd]
      refine wpAny_pure ?_
      show R acc.toList _
      rw [ha]; exact q
  · obtain ⟨as, e, _⟩ := out y
    cases e
end
end L2
namespace L2
open PySem PySem.Spec PySem.W PySem.Calls PyProof.Rows
section
variable {X : Cx} {pins : List (Addr × Obj)} {σ : St} {H : Hp} {s : Shared} {A : Around} {E : Value → Shared → Prop}
def outL (ys : List V) (q : List Nat) : List V := q.map fun i => ys.getD i .non
theorem vals_out {ys : List V} {vs : List Value} {q : List Nat} (r : Vals ys vs) (hq : ∀ i ∈ q, i < ys.length) : Vals (outL ys q) (q.map fun i => vs.getD i Value.none) := by
  induction q with
  | nil => exact .nil
  | cons i q ih =>
    refine .cons ?_ (ih fun j hj => hq j (List.mem_cons_of_mem _ hj))
    obtain ⟨y, e, ry⟩ := vals_get r (hq i List.mem_cons_self)
    show RelV (ys.getD i .non) _
    rw [List.getD_eq_getElem?_getD, e]
    exact ry
theorem Order.lt {n : Nat} {cs : List (List Int)} {q : List Nat} (h : Order n cs q) : ∀ i ∈ q, i < n := fun i hi => by
  have := (h.pm.mem_iff (a := i)).mp hi
  simpa using this
theorem sorted_core {u : Value} {Q : VK} (hu : A.units + 2 < cLine)
    (col : wpAny (model X.prog X.w) A.in1 (collect u) (fun vs s1 => ∃ ys cs H1, Inv X pins σ H1 s1 ∧ Vals ys vs ∧ ys.length < 64 ∧ Rank X.K H1 ys cs ∧ ∀ q l, Order ys.length cs q → H1 l = none → Q (.ref l) (upd H1 l (.lst (outL ys q)))) E s) :
    wpAny (model X.prog X.w) A (call (.builtin "sorted") [u]) (EP X pins σ Q) E s := by
  refine Calls.call_function_entry kind_sorted plain_sorted entry_sorted (args_sorted1 _) ?_
  unfold Builtin.«sorted»
  refine wpAny_bind (m := checkCount "sorted" 1 1 _) (wpAny_pure (wpAny_bind (wpAny_mono col (fun vs s1 hq => ?_) fun _ _ z => z)))
  obtain ⟨ys, cs, H1, I1, r, h64, rk, q1⟩ := hq
  have line : (64 : Nat) ≤ sizeLine := by decide
  have el := r.length
  refine wpAny_bind (wpAny_newList ?_ (by omega))
  have ho : (s1.heap.push { cls := .type "list", data := .seq vs.toArray }).get? s1.heap.objs.size = some (seqObj "list" vs.toArray 0) := Heap.get?_push_size _ rfl
  have I2 : Inv X pins σ H1 { s1 with heap := s1.heap.push { cls := .type "list", data := .seq vs.toArray } } := I1.kept (t' := s1.toks) fun b o e => Heap.get?_push_of_some _ e
  have fp := I1.fpOk (Nat.le_refl _) (I1.hok.fresh (Nat.le_refl _))
  refine wpAny_bind (wpAny_holding (wpAny_call_entry slot_list_sort ⟨_, ho, rfl⟩ entry_list_sort (sort_core I2 ?_ fp ho r h64 rk fun q c s' od e I3 => ?_) (args_list_sort _)))
  · have e : A.in1.in1.units ≤ A.units + 2 := by first | exact Nat.le_refl _ | (simp only [Around.in1]; omega)
    exact Nat.lt_of_le_of_lt e hu
  · refine ⟨_, rfl, wpAny_pure ⟨_, rfl, .ref s1.heap.objs.size, _, I3.track (o := .lst (outL ys q)) fp (Heap.get?_none_of_le I1.sz) ⟨?_, _, c, vals_out r od.lt, e⟩, rfl, q1 q _ od fp.1⟩⟩
    have := od.pm.length_eq
    simp only [outL, List.length_map]
    simp at this
    omega
def viewO (v d : Addr) : HO := .ext fun h => h.IsItemsView v d
def rItems : V → List V → Hp → VK → Prop := fun x us H Q => ∃ d, x = .ref d ∧ us = [] ∧ IsD H d ∧ ∀ v, H v = none → Q (.ref v) (upd H v (viewO v d))
def Held (H : Hp) (d : Addr) (ps : List (V × V)) : Prop := (∃ kvs, H d = some (.dK kvs) ∧ ps = kvs.map fun p => (kV p.1, p.2)) ∨
  ∃ kvs : List (List Key × V), H d = some (.dT kvs) ∧ Paired (fun (p : List Key × V) (q : V × V) => ∃ b, q.1 = .ref b ∧ H b = some (.tup (p.1.map kV)) ∧ q.2 = p.2) kvs ps
theorem kV_of {P : Program} {w : World} {k : Key} {u : Value} (h : (mixKind P w).is k u = true) : RelV (kV k) u := by
  rcases keyIs_shape (show keyIs k u = true from h) with ⟨i, t, rfl, rfl⟩ | ⟨x, t, rfl, rfl⟩
  · exact ⟨t, rfl⟩
  · exact ⟨t, rfl⟩
theorem ents_of (I : Inv X pins σ H s) {d : Addr} (h : (∃ kvs, H d = some (.dK kvs)) ∨ ∃ kvs, H d = some (.dT kvs)) : ∃ es ep ps, Ents s.heap d es ep ∧ Held H d ps ∧ es.size ≤ sizeLine ∧ Paired (fun (p : V × V) (e : DictEntry) => RelV p.1 e.key ∧ RelV p.2 e.val) ps es.toList := by
  rcases h with ⟨kvs, e⟩ | ⟨kvs, e⟩
  · obtain ⟨z, _, vs, r, o, es, ep, ho, ex, hd, _, pr, _⟩ := (show ObjOk X.prog X.w H s.heap d (.dK kvs) from I.hok d _ e)
    have pz : ∀ {es : List DictEntry} {vs : List (Key × Value)} {kvs : List (Key × V)}, Pairs (mixKind X.prog X.w) es vs → KV kvs vs → Paired (fun (p : V × V) (e : DictEntry) => RelV p.1 e.key ∧ RelV p.2 e.val) (kvs.map fun p => (kV p.1, p.2)) es := by
      intro es vs kvs a b
      induction a generalizing kvs with
      | nil => cases b; exact .nil
      | cons h1 h2 _ ih =>
        cases b with
        | cons q qs =>
          refine .cons ⟨?_, ?_⟩ (ih qs)
          · have := kV_of h1; rw [← q.1] at this; exact this
          · rw [h2]; exact q.2
    have pp := pz pr r
    refine ⟨es, ep, _, ⟨o, ho, ex, hd⟩, .inl ⟨kvs, e, rfl⟩, ?_, pp⟩
    have h1 := pp.length
    have h2 : es.toList.length = es.size := Array.length_toList
    rw [List.length_map] at h1
    omega
  · obtain ⟨z, _, xs, r, o, es, ep, ho, ex, hd, he, _⟩ := (show ObjOk X.prog X.w H s.heap d (.dT kvs) from I.hok d _ e)
    have pz : ∀ {kvs : List (List Key × V)} {xs : List (List Key × Addr × Value)}, Paired (fun (p : List Key × V) (q : List Key × Addr × Value) => p.1 = q.1 ∧ H q.2.1 = some (.tup (p.1.map kV)) ∧ RelV p.2 q.2.2) kvs xs →
        ∃ ps : List (V × V), Paired (fun (p : List Key × V) (q : V × V) => ∃ b, q.1 = .ref b ∧ H b = some (.tup (p.1.map kV)) ∧ q.2 = p.2) kvs ps ∧ Paired (fun (p : V × V) (e : DictEntry) => RelV p.1 e.key ∧ RelV p.2 e.val) ps (xs.map (entryOfKey (tupleKind (mixKind X.prog X.w)))) := by
      intro kvs xs a
      induction a with
      | nil => exact ⟨[], .nil, .nil⟩
      | @cons p q _ _ h _ ih =>
        obtain ⟨ps, i1, i2⟩ := ih
        exact ⟨(.ref q.2.1, p.2) :: ps, .cons ⟨q.2.1, rfl, h.2.1, rfl⟩ i1, .cons ⟨rfl, h.2.2⟩ i2⟩
    obtain ⟨ps, p1, p2⟩ := pz r
    rw [← he] at p2
    refine ⟨es, ep, ps, ⟨o, ho, ex, hd⟩, .inr ⟨kvs, e, p1⟩, ?_, p2⟩
    have h0 := p1.length
    have h1 := p2.length
    have h2 : es.toList.length = es.size := Array.length_toList
    omega
theorem mt_items : MtR X "dict.items" rItems := by
  intro pins s σ H x xs v us Q I rx rs h
  obtain ⟨d, rfl, rfl, dd, q⟩ := h
  cases rs
  obtain rfl : v = .ref d := rx
  have ty := isD_at I dd
  have dd' : (∃ kvs, Rd H d (.dK kvs)) ∨ ∃ kvs, Rd H d (.dT kvs) := dd
  have ents : ∃ es ep, Ents s.heap d es ep := by
    rcases dd' with ⟨kvs, e⟩ | ⟨kvs, e⟩
    · obtain ⟨_, _, _, _, o, es, ep, ho, ex, hd, _⟩ := e.ok I.hok
      exact ⟨es, ep, o, ho, ex, hd⟩
    · obtain ⟨_, _, _, _, o, es, ep, ho, ex, hd, _⟩ := e.ok I.hok
      exact ⟨es, ep, o, ho, ex, hd⟩
  obtain ⟨es, ep, en⟩ := ents
  refine items_call ty.2.2 en ?_
  have g : (s.heap.push { cls := .type "dict_items", data := .fields #[.ref d] }).IsItemsView s.heap.objs.size d := ⟨_, Heap.get?_push_size _ rfl, rfl, rfl⟩
  refine ⟨.ref s.heap.objs.size, _, I.laid (t' := s.toks) (o := viewO s.heap.objs.size d) (fun b o e => Heap.get?_push_of_some _ e) (Nat.le_refl _) ⟨g, ⟨_, Heap.get?_push_size _ rfl⟩, fun h1 h2 a b => ?_⟩, rfl, q _ (I.hok.fresh (Nat.le_refl _))⟩
  obtain ⟨o, e1, e2, e3⟩ := a
  exact ⟨o, b o e1, e2, e3⟩
def upds (H : Hp) : List (Addr × HO) → Hp
  | [] => H
  | p :: r => upds (upd H p.1 p.2) r
theorem upds_keep {a : Addr} {o : HO} : ∀ {l : List (Addr × HO)} {H : Hp}, H a = some o → (∀ p ∈ l, p.1 ≠ a) → upds H l a = some o
  | [], _, h, _ => h
  | p :: l, H, h, n => upds_keep (l := l) (by rw [upd_ne (Ne.symm (n p List.mem_cons_self))]; exact h) fun q hq => n q (List.mem_cons_of_mem _ hq)
theorem upds_at : ∀ {l : List (Addr × HO)} {H : Hp} {i : Nat} {p : Addr × HO}, (l.map (·.1)).Nodup → l[i]? = some p → upds H l p.1 = some p.2
  | q :: l, H, 0, p, nd, e => by
    simp at e
    subst e
    rw [List.map_cons, List.nodup_cons] at nd
    show upds (upd H q.1 q.2) l q.1 = some q.2
    exact upds_keep upd_same fun r hr z => nd.1 (by rw [← z]; exact List.mem_map_of_mem hr)
  | q :: l, H, i + 1, p, nd, e => by
    rw [List.map_cons, List.nodup_cons] at nd
    show upds (upd H q.1 q.2) l p.1 = some p.2
    exact upds_at (i := i) nd.2 (by simpa using e)
  | [], _, _, _, _, e => by simp at e
def prs (as : List Addr) (ps : List (V × V)) : List (Addr × HO) := (as.zip ps).map fun p => (p.1, .tup [p.2.1, p.2.2])
theorem track_all {as : List Addr} {ps : List (V × V)} (qs : Paired (fun (a : Addr) (p : V × V) => ∃ u v, RelV p.1 u ∧ RelV p.2 v ∧ s.heap.get? a = some { cls := .type "tuple", data := .seq #[u, v] }) as ps) :
    ∀ {H : Hp}, Inv X pins σ H s → as.Pairwise (· < ·) → (∀ a ∈ as, FpOk X pins H a ∧ X.s₀.heap.get? a = none) → Inv X pins σ (upds H (prs as ps)) s := by
  induction qs with
  | nil => intro H I _ _; exact I
  | @cons a p as ps q _ ih =>
    intro H I nd h
    obtain ⟨f, z⟩ := h a List.mem_cons_self
    obtain ⟨u, v, r1, r2, e⟩ := q
    rw [List.pairwise_cons] at nd
    have new : ObjOk X.prog X.w (upd H a (.tup [p.1, p.2])) s.heap a (.tup [p.1, p.2]) := ⟨by show 2 ≤ sizeLine; decide, [u, v], .cons r1 (.cons r2 .nil), _, e, rfl, 0, rfl⟩
    have I1 : Inv X pins σ (upd H a (.tup [p.1, p.2])) s := I.track f z new
    show Inv X pins σ (upds (upd H a (.tup [p.1, p.2])) (prs as ps)) s
    refine ih I1 nd.2 fun b hb => ?_
    obtain ⟨f', z'⟩ := h b (List.mem_cons_of_mem _ hb)
    exact ⟨⟨by rw [upd_ne (Nat.ne_of_gt (nd.1 b hb))]; exact f'.1, f'.2⟩, z'⟩
def rSortedI (K : PySem.W.Frag) : List V → Hp → VK → Prop := fun xs H Q => ∃ v d, xs = [.ref v] ∧ H v = some (viewO v d) ∧ ((∃ kvs, H d = some (.dK kvs)) ∨ ∃ kvs, H d = some (.dT kvs)) ∧ ∀ ps, Held H d ps → ps.length < 64 ∧ ∃ cs k ks,
  Paired (fun (p : V × V) (c : List Int) => Parts K H [p.1, p.2] c (k :: ks)) ps cs ∧ ∀ as q l, as.length = ps.length → as.Nodup → (∀ a ∈ as, H a = none) → Order ps.length cs q → upds H (prs as ps) l = none →
    Q (.ref l) (upd (upds H (prs as ps)) l (.lst (outL (as.map V.ref) q)))
theorem Parts.keep {K : PySem.W.Frag} {H H' : Hp} (k : ∀ a xs, H a = some (.tup xs) → H' a = some (.tup xs)) : ∀ {xs : List V} {c : List Int} {ks : List Nat}, Parts K H xs c ks → Parts K H' xs c ks
  | _, _, _, .nil => .nil
  | _, _, _, .cons p ps => .cons (by
      cases p with
      | int i => exact .int i
      | str x => exact .str x
      | tup e => exact .tup (k _ _ e)) (ps.keep k)
theorem call_sortedI (hc : X.calm = true) (hu : X.A.units + 2 < cLine) : CallR X (.builtin "sorted") (rSortedI X.K) := by
  intro pins s σ H xs us Q I r h
  obtain ⟨v, d, rfl, hv, hd, h⟩ := h
  obtain ⟨u, rfl, rx⟩ := vals1 r
  cases rx
  obtain ⟨es, ep, ps, en, hp, hz, pe⟩ := ents_of I hd
  obtain ⟨h64, cs, k, ks, pc, q⟩ := h ps hp
  have view : s.heap.IsItemsView v d := (show ObjOk X.prog X.w H s.heap v (viewO v d) from I.hok v _ hv).1
  have lp0 := pe.length
  have lp1 : es.toList.length = es.size := Array.length_toList
  have lp : ps.length = es.size := lp0.trans lp1
  have lc := pc.length
  refine sorted_core hu (items_collect (A := X.A.in1) (I.ok.hd hc) view en hz fun h' tk as kp la pr => ?_)
  have I1 : Inv X pins σ H { s with heap := h', toks := tk } := I.kept kp
  have fr : ∀ a ∈ as, s.heap.objs.size ≤ a := fun a ha => Nat.le_of_lt (pr.lt a ha).1
  have fresh : ∀ a ∈ as, H a = none := fun a ha => I.hok.fresh (fr a ha)
  have hpair : Paired (fun (a : Addr) (p : V × V) => ∃ u v, RelV p.1 u ∧ RelV p.2 v ∧ h'.get? a = some { cls := .type "tuple", data := .seq #[u, v] }) as ps := by
    have go : ∀ {as : List Addr} {ps : List (V × V)} {es : List DictEntry}, as.length = es.length → Paired (fun (p : V × V) (e : DictEntry) => RelV p.1 e.key ∧ RelV p.2 e.val) ps es → (∀ (j : Nat) (a : Addr), as[j]? = some a → ∃ e, es[j]? = some e ∧ h'.get? a = some { cls := .type "tuple", data := .seq #[e.key, e.val] }) →
        Paired (fun (a : Addr) (p : V × V) => ∃ u v, RelV p.1 u ∧ RelV p.2 v ∧ h'.get? a = some { cls := .type "tuple", data := .seq #[u, v] }) as ps := by
      intro as
      induction as with
      | nil => intro ps es l a _; cases a with
        | nil => exact .nil
        | cons _ _ => simp at l
      | cons a as ih =>
        intro ps es l b h
        cases b with
        | nil => simp at l
        | @cons p e _ _ r rs =>
          refine .cons ?_ (ih (by simpa using l) rs fun j a ha => ?_)
          · obtain ⟨e', q1, q2⟩ := h 0 a rfl
            simp at q1
            subst q1
            exact ⟨_, _, r.1, r.2, q2⟩
          · obtain ⟨e', q1, q2⟩ := h (j + 1) a (by simpa using ha)
            exact ⟨e', by simpa using q1, q2⟩
    exact go (by rw [la, Array.length_toList]) pe fun j a ha => by
      obtain ⟨e, q1, q2⟩ := pr.ix j a ha
      exact ⟨e, by rw [Array.getElem?_toList]; exact q1, q2⟩
  have I2 := track_all (s := { s with heap := h', toks := tk }) hpair I1 pr.up (fun a ha => ⟨I.fpOk (fr a ha) (fresh a ha), Heap.get?_none_of_le (Nat.le_trans I.sz (fr a ha))⟩)
  have nd : as.Nodup := pr.up.imp fun h => Nat.ne_of_lt h
  have ndz : ((prs as ps).map (·.1)).Nodup := by
    have : (prs as ps).map (·.1) = as := by
      unfold prs
      rw [List.map_map]
      have e : ((fun x => x.fst) ∘ fun (p : Addr × V × V) => (p.1, HO.tup [p.2.1, p.2.2])) = Prod.fst := rfl
      rw [e, List.map_fst_zip]
      omega
    rw [this]; exact nd
  have keepT : ∀ a xs, H a = some (.tup xs) → upds H (prs as ps) a = some (.tup xs) := fun a xs e => upds_keep e fun p hp z => by
    obtain ⟨x, hx, rfl⟩ := List.mem_map.mp hp
    have := fresh _ (List.of_mem_zip hx).1
    rw [show a = x.1 from z.symm, this] at e
    cases e
  refine ⟨as.map V.ref, cs, upds H (prs as ps), I2, ?_, by simp; omega, .rows k ks (by simp; omega) fun i y c hy hc => ?_, fun q' l od hl => ?_⟩
  · have : ∀ as : List Addr, Vals (as.map V.ref) (as.map Value.ref) := fun as => by
      induction as with
      | nil => exact .nil
      | cons a as ih => exact .cons rfl ih
    exact this as
  · rw [List.getElem?_map] at hy
    obtain ⟨a, ha, rfl⟩ := Option.map_eq_some_iff.mp hy
    have hi : i < ps.length := by
      have := (List.getElem?_eq_some_iff.mp ha).1
      omega
    have hpi : ps[i]? = some ps[i] := List.getElem?_eq_getElem hi
    have hpart : Parts X.K H [ps[i].1, ps[i].2] c (k :: ks) := by
      have go : ∀ {ps : List (V × V)} {cs : List (List Int)} {i : Nat} {p : V × V} {c : List Int}, Paired (fun (p : V × V) (c : List Int) => Parts X.K H [p.1, p.2] c (k :: ks)) ps cs → ps[i]? = some p → cs[i]? = some c → Parts X.K H [p.1, p.2] c (k :: ks) := by
        intro ps cs i p c a
        induction a generalizing i with
        | nil => intro e; simp at e
        | cons r _ ih =>
          intro e1 e2
          cases i with
          | zero => simp at e1 e2; subst e1 e2; exact r
          | succ i => exact ih (by simpa using e1) (by simpa using e2)
      exact go pc hpi hc
    refine ⟨a, [ps[i].1, ps[i].2], rfl, ?_, hpart.keep keepT⟩
    have : (prs as ps)[i]? = some (a, .tup [ps[i].1, ps[i].2]) := by
      unfold prs
      rw [List.getElem?_map, show (as.zip ps)[i]? = some (a, ps[i]) from List.getElem?_zip_eq_some.mpr ⟨ha, hpi⟩]
      rfl
    exact upds_at ndz this
  · rw [List.length_map] at od
    have e : as.length = ps.length := by omega
    rw [e] at od
    exact q as q' l e nd fresh od hl
end
end L2
namespace L2
open PySem PySem.Spec PyProof.Rows
def nos (xs : List Str) : St := xs.map fun _ => none
def CompGoT (xs : List Str) (js : List Nat) (g : TG) (tt : TT) (te : TE) (σ : St) (Q : VK) (J : It) (H1 : Hp) : Prop :=
  ∃ W : Nat → Nat → List V → Hp → Prop, (∃ m, W 0 m [] H1) ∧ ∀ i m ys H, W i m ys H →
    (J.stop i H ∧ ys.length ≤ sizeLine ∧ ∀ p, H p = none → Q (.ref p) (upd H p (.lst ys))) ∨
    (J.go i H ∧ ∃ N : List V → Hp → Prop, (∀ ys' H', N ys' H' → ys'.length ≤ sizeLine ∧ ∃ m', m' < m ∧ W (i + 1) m' ys' H') ∧ ∀ x H', J.yld i H x H' → g x (nos xs ++ caps js σ) H' fun σ1 H1 => (σ1.length = (nos xs ++ caps js σ).length ∧ σ1.drop xs.length = caps js σ) ∧ tt σ1 H1 fun b H2 =>
      if b = true then te σ1 H2 fun y H3 => N (ys ++ [y]) H3 else N ys H2)
def tCompT (xs : List Str) (js : List Nat) (wi : TI) (g : TG) (tt : TT) (te : TE) : TE := fun σ H Q => wi σ H fun J H1 => CompGoT xs js g tt te σ Q J H1
section
variable {X : Cx} {tg elt iter : Expr} {ifs : List Expr} {scope : Scope} {xs cs : List Str} {js : List Nat} {tt : TT} {te : TE} {pos : Pos}
theorem compT_block {g : TG} {cl : List (Str × Addr)} {pins : List (Addr × Obj)} {σ : St} {H2 : Hp} {s2 : Shared} {it : Addr} {fp : List Addr} {tn : Nat → Heap → Prop} {J : It} {Q : VK} {RR : Value → Addr → Result → Shared → Prop}
    (hc : X.calm = true) (hcap : CapOk X scope cs js) (ht : ∀ cl C fp s H, PTs (cxComp X scope cl C (xs ++ cs) fp s H) ifs tt) (he : ∀ cl C fp s H, PE (cxComp X scope cl C (xs ++ cs) fp s H) elt te)
    (hcell : ∀ y ∈ scope.names, y.2 ≠ .cell) (hkind : scope.kind = .function) (hg : ∀ cl C fp s H, PG (cxComp X scope cl C (xs ++ cs) fp s H) tg g)
    (hcl1 : ∀ n c, cl.lookup n = some c → X.env.cells.lookup n = some c) (hcl2 : ∀ n, (n, NameKind.free) ∈ scope.names → ∃ c, cl.lookup n = some c)
    (I2 : Inv X pins σ H2 s2) (T : Turn X.prog X.w X.K (tg) J fp it tn) (st2 : tn 0 s2.heap) (f2 : ∀ b ∈ fp, FpOk X pins H2 b)
    (W : Nat → Nat → List V → Hp → Prop) (w0 : ∃ m, W 0 m [] H2)
    (step : ∀ i m ys H, W i m ys H →
      (J.stop i H ∧ ys.length ≤ sizeLine ∧ ∀ p, H p = none → Q (.ref p) (upd H p (.lst ys))) ∨
      (J.go i H ∧ ∃ N : List V → Hp → Prop, (∀ ys' H', N ys' H' → ys'.length ≤ sizeLine ∧ ∃ m', m' < m ∧ W (i + 1) m' ys' H') ∧ ∀ x H', J.yld i H x H' → g x (nos xs ++ caps js σ) H' fun σ1 H1 => (σ1.length = (nos xs ++ caps js σ).length ∧ σ1.drop xs.length = caps js σ) ∧ tt σ1 H1 fun b H2 =>
        if b = true then te σ1 H2 fun y H3 => N (ys ++ [y]) H3 else N ys H2))
    (fin : ∀ (D C : Addr) (H3 : Hp) (s4 : Shared) (m' : Str → Option Value), Inv X pins σ H3 s4 → s4.heap.Ns C m' → s2.heap.objs.size ≤ C → H3 C = none → Q (.ref D) H3 → RR (.ref D) C (.ok .next) s4) :
    wpAny (model X.prog X.w) X.A (newList []) (fun acc s3 => wpAny (model X.prog X.w) X.A (newFunctionEnv scope X.env.globals cl [] X.env.qual none .none (some X.env)) (fun cenv s4 =>
      codeAny (model X.prog X.w) X.A (.compStart (.ListComp elt [⟨tg, iter, ifs, 0⟩] scope pos) 0 (.ref it) acc { cenv with scope := relabel scope X.env }) (RR acc cenv.locals) s4) X.xe s3) X.xe s2 := by
  refine wpAny_newObj_type (wpAny_newFunctionEnv hcell (by intro y hy; simp at hy) (fun h1 hns hsb => ?_) hkind)
  dsimp only at hns hsb ⊢
  generalize hP : s2.heap.push { cls := .type "list", dict := none, data := .seq ([] : List Value).toArray } = hq at hns hsb ⊢
  have eC : hq.objs.size = s2.heap.objs.size + 1 := by rw [← hP, Heap.size_push]
  generalize eD : s2.heap.objs.size = D at eC ⊢
  generalize eCC : hq.objs.size = C at hns hsb eC ⊢
  have DC : D ≠ C := by omega
  have old : ∀ b o, s2.heap.get? b = some o → h1.get? b = some o := fun b o e => by
    have lt : @LT.lt Nat _ b s2.heap.objs.size := Heap.lt_size e
    exact hsb.extBut b o (fun z => by subst z; omega) (Heap.get?_push_of_some _ (hP ▸ Heap.get?_push_of_some _ e))
  have accD : h1.get? D = some { cls := .type "list", dict := none, data := .seq ([] : List Value).toArray } := hsb.extBut _ _ DC (Heap.get?_push_of_some _ (hP ▸ eD ▸ Heap.get?_push_size _ rfl))
  have noD : s2.heap.get? D = none := Heap.get?_none_of_le (by omega)
  have HD : H2 D = none := I2.hok.fresh (by omega)
  have HC : H2 C = none := I2.hok.fresh (by omega)
  have fpLt : ∀ b ∈ fp, @LT.lt Nat _ b D := fun b hb => by
    obtain ⟨o, e, _⟩ := T.obj _ _ st2 b hb
    have q : @LT.lt Nat _ b s2.heap.objs.size := Heap.lt_size e
    omega
  have Dfp : D ∉ fp := fun z => Nat.lt_irrefl _ (fpLt D z)
  have fsLt : ∀ b ∈ frs X.stack, @LT.lt Nat _ b D := fun b hb => by
    obtain ⟨_, o, ho, _⟩ := I2.stack.mem hb
    have q : @LT.lt Nat _ b s2.heap.objs.size := Heap.lt_size ho
    omega
  have clLt : ∀ y c, cl.lookup y = some c → @LT.lt Nat _ c D := fun y c e => by
    obtain ⟨v, z⟩ := I2.cell y c (hcl1 y c e)
    have q : @LT.lt Nat _ c s2.heap.objs.size := z.lt
    omega
  have ok : (cxComp X scope cl C (xs ++ cs) fp s2 H2).Ok := by
    refine ⟨I2.ok.mod, hkind, I2.ok.glob, I2.ok.blt, (by show s2.heap.objs.size ≤ C; omega), fun y z c e1 e2 => I2.ok.inj y z c (hcl1 y c e1) (hcl1 z c e2), fun y hy => hcl2 y (re_free hcell hy), fun y c e => (by cases e), I2.ok.hd, I2.ok.frames, .inl rfl,
      fun b hb => ⟨?_, fun y c e => (f2 b hb).2.2.2.2.1 y c (hcl1 y c e)⟩, I2.bs, Nat.le_trans I2.ok.bsz I2.sz, fun b o e hb => ?_, fun b hb z => ?_, I2.stack, I2.stkFree⟩
    · have q := fpLt b hb
      show b ≠ C
      intro z
      subst z
      omega
    · rcases (f2 b hb).2.2.2.1 with z | z
      · exact I2.ok.noex b o e z
      · have l : @LT.lt Nat _ b X.base.objs.size := Heap.lt_size e
        have l2 := I2.ok.bsz
        have l3 : @LE.le Nat _ X.s₀.heap.objs.size b := z
        omega
    · rcases List.mem_cons.mp (I2.stkSub b z) with e | e
      · exact (f2 b hb).2.1 e
      · exact (f2 b hb).2.2.1 e
  have I0 : Inv (cxComp X scope cl C (xs ++ cs) fp s2 H2) [(D, { cls := .type "list", dict := none, data := .seq ([] : List Value).toArray })] (nos xs ++ caps js σ) H2 { s2 with heap := h1, toks := s2.toks + ([] : List (Str × Value)).length } := by
    refine ⟨ok, rfl, I2.bare, Un.kept old, ⟨_, hns, fun i y v e1 e2 e3 => ?_⟩, fun y c e => ?_, HC, fun y c e => I2.freeC y c (hcl1 y c e), fun p hp => ?_, I2.hok.kept old, ?_⟩
    · have hi : xs.length ≤ i := by
        rcases Nat.lt_or_ge i xs.length with q | q
        · rw [List.getElem?_append_left (by simpa [nos] using q)] at e2
          simp [nos] at e2
        · exact q
      obtain ⟨j, rfl⟩ : ∃ j, i = xs.length + j := ⟨i - xs.length, by omega⟩
      · have e1' : cs[j]? = some y := by
          have : (xs ++ cs)[xs.length + j]? = some y := e1
          rw [List.getElem?_append_right (by omega)] at this
          simpa using this
        obtain ⟨i0, q1, q2, q3, q4⟩ := hcap.get e1'
        have e2' : σ[i0]? = some (some v) := by
          have z : (caps js σ)[j]? = some (some v) := by
            rw [List.getElem?_append_right (by simp [nos])] at e2
            simpa [nos] using e2
          unfold caps at z
          rw [List.getElem?_map, q1] at z
          have z' : (σ[i0]?).join = some v := by simpa using z
          cases r : σ[i0]? with
          | none => rw [r] at z'; cases z'
          | some r' => rw [r] at z'; exact congrArg some z'
        obtain ⟨m, _, hl⟩ := I2.loc
        obtain ⟨u, r, l⟩ := hl i0 y v q2 e2' (by rcases q4 with q | q; exact .inr (.inl q); exact .inr (.inr q))
        obtain ⟨c, hcy⟩ := hcl2 y (PySem.mem_of_lookup q3)
        refine ⟨u, r, .inr ⟨re_vis q3, c, hcy, ?_⟩⟩
        rcases l with ⟨k, _⟩ | ⟨_, c', ec, o, ho, hd⟩
        · rcases q4 with q | q <;> rw [q] at k <;> cases k
        · rw [hcl1 y c hcy] at ec
          cases ec
          exact ⟨o, old _ _ ho, hd⟩
    · obtain ⟨v, o, ho, hd⟩ := I2.cell y c (hcl1 y c e)
      exact ⟨v, o, old _ _ ho, hd⟩
    · have ep : p = (D, { cls := .type "list", dict := none, data := .seq ([] : List Value).toArray }) := by simpa [cxComp] using hp
      subst ep
      exact ⟨accD, HD, (by show D ≠ C; omega), (fun z => Nat.lt_irrefl _ (fsLt D z)), fun v z => by cases z⟩
    · show (nos xs ++ caps js σ).length = (xs ++ cs).length
      unfold caps nos
      rw [List.length_append, List.length_append, List.length_map, List.length_map, hcap.len]
  have stat : ∀ {pn : List (Addr × Obj)} {H' : Hp}, (∀ b ∈ fp, H' b = none) → (∀ p ∈ pn, p.1 ∉ fp) → ∀ b ∈ fp, FpOk (cxComp X scope cl C (xs ++ cs) fp s2 H2) pn H' b := fun hn hpn b hb =>
    ⟨hn b hb, (ok.exf b hb).1, ok.exfs b hb, .inl hb, fun y c e => (ok.exf b hb).2 y c e, fun p hp z => hpn p (by simpa [cxComp] using hp) (z ▸ hb)⟩
  have loop : ∀ s3 : Shared, s3 = { s2 with heap := h1, toks := s2.toks + ([] : List (Str × Value)).length } →
      codeAny (model X.prog X.w) X.A (.compLoop (.ListComp elt [⟨tg, iter, ifs, 0⟩] scope pos) 0 (.ref it) (.ref D) (compEnvC scope cl C X.env)) (RR (.ref D) C) s3 := by
    rintro s3 rfl
    obtain ⟨m0, w0⟩ := w0
    refine turns_of (fun n s => ∃ (i : Nat) (ys : List V) (its : List Value) (c : Nat) (H : Hp), Inv (cxComp X scope cl C (xs ++ cs) fp s2 H2) [(D, { cls := .type "list", data := .seq its.toArray c })] (nos xs ++ caps js σ) H s ∧
      tn i s.heap ∧ (∀ b ∈ fp, H b = none) ∧ Vals ys its ∧ W i n ys H) ?_ m0 ⟨0, [], [], 0, H2, I0, T.keep _ _ _ st2 fun b _ o e => old b o e, fun b hb => (f2 b hb).1, .nil, w0⟩
    rintro n s3 ⟨i, ys, its, c, H3, I3, st3, fr3, rv, w3⟩
    have pD : ∀ p ∈ [((D, { cls := .type "list", data := .seq its.toArray c }) : Addr × Obj)], p.1 ∉ fp := fun p hp => by
      have : p = (D, { cls := .type "list", data := .seq its.toArray c }) := by simpa using hp
      subst this
      exact Dfp
    rcases step i n ys H3 w3 with ⟨stop, hlen, qn⟩ | ⟨go, N, hN, step⟩
    · refine thn (T.done (cxComp X scope cl C (xs ++ cs) fp s2 H2) rfl rfl rfl hc i _ s3 _ H3 (fun _ _ => False) I3 (stat fr3 pD) st3 stop) fun r s4 ⟨hr, I4⟩ => ?_
      subst hr
      obtain ⟨gD, nD, _⟩ := I4.pin _ (List.mem_append_right _ List.mem_cons_self)
      obtain ⟨m', hn', _⟩ := id I4.loc
      have u4 : Un (frs X.stack) fp H2 H3 s2.heap s4.heap := I4.base
      have k4 : HOk X.prog X.w (upd H3 D (.lst ys)) s4.heap := HOk.track I4.hok nD ⟨hlen, its, c, rv, gD⟩
      have I5 : Inv X pins σ (upd H3 D (.lst ys)) s4 := I2.call' (ch := fp) I4.os (u4.track noD HD) k4 I4.bare fun b hb => ⟨(f2 b hb).2.2.2.1, (f2 b hb).2.1, (f2 b hb).2.2.2.2.1, (f2 b hb).2.2.2.2.2⟩
      exact fin D C _ s4 m' I5 hn' (by omega) (by rw [upd_ne (Ne.symm DC)]; exact I4.free) (qn D nD)
    · refine thn (T.item (cxComp X scope cl C (xs ++ cs) fp s2 H2) rfl rfl rfl hc i _ s3 _ H3 (fun _ _ => False) I3 (stat fr3 pD) st3 go) fun r s4 ⟨u, hr, h4⟩ => ?_
      subst hr
      refine thn h4 fun _ s5 ⟨v, H5, I5, r5, y5, st5, fr5⟩ => ?_
      have I5' := I5.pinned (stat fr5 pD) (T.obj _ _ st5)
      refine thn (hg cl C fp s2 H2 _ s5 (nos xs ++ caps js σ) H5 v u _ I5' r5 (step v H5 y5)) fun _ s6 ⟨σ6, H6, I6, ⟨len6, drop6⟩, q6⟩ => ?_
      have weak : ∀ {pn : List (Addr × Obj)} {H' : Hp} {s' : Shared}, Inv (cxComp X scope cl C (xs ++ cs) fp s2 H2) pn σ6 H' s' → Inv (cxComp X scope cl C (xs ++ cs) fp s2 H2) pn (nos xs ++ caps js σ) H' s' := fun I' =>
        I'.weak len6.symm fun j z e => by
          have hj : xs.length ≤ j := by
            rcases Nat.lt_or_ge j xs.length with q | q
            · rw [List.getElem?_append_left (by simpa [nos] using q)] at e
              simp [nos] at e
            · exact q
          rw [List.getElem?_append_right (by simpa [nos] using hj), ← drop6] at e
          rw [List.getElem?_drop] at e
          rw [← e]
          congr 1
          simp [nos]
          omega
      have tnK : ∀ {σ' : St} {H' : Hp} {s' : Shared}, Inv (cxComp X scope cl C (xs ++ cs) fp s2 H2) ([(D, { cls := .type "list", data := .seq its.toArray c })] ++ pinsAt fp s5.heap) σ' H' s' → (∀ b ∈ fp, ∀ o, s5.heap.get? b = some o → s'.heap.get? b = some o) ∧ ∀ b ∈ fp, H' b = none := fun I' =>
        ⟨fun b hb o e => (I'.pin (b, o) (List.mem_append_right _ (List.mem_append_right _ (mem_pinsAt hb e)))).1, fun b hb => by
          obtain ⟨o, e, _⟩ := T.obj _ _ st5 b hb
          exact (I'.pin (b, o) (List.mem_append_right _ (List.mem_append_right _ (mem_pinsAt hb e)))).2.1⟩
      refine thn (ht cl C fp s2 H2 _ s6 σ6 H6 _ I6 q6) fun b s7 ⟨H7, I7, q7⟩ => ?_
      cases b with
      | false =>
        rw [if_neg Bool.false_ne_true] at q7 ⊢
        obtain ⟨_, m', hm, w7⟩ := hN _ _ q7
        exact ⟨m', hm, i + 1, ys, its, c, H7, weak I7.unpinned, T.keep _ _ _ st5 (tnK I7).1, (tnK I7).2, rv, w7⟩
      | true =>
        rw [if_pos rfl] at q7 ⊢
        refine thn (he cl C fp s2 H2 _ s7 σ6 H7 _ I7 q7) fun yv s8 ⟨y, H8, I8, r8, q8⟩ => ?_
        obtain ⟨hl8, m', hm, w8⟩ := hN _ _ q8
        rw [List.length_append, List.length_singleton] at hl8
        obtain ⟨gD, nD, dC, dF, _⟩ := I8.pin (D, { cls := .type "list", data := .seq its.toArray c }) (List.mem_append_right _ (List.mem_append_left _ List.mem_cons_self))
        have el := rv.length
        refine wpAny_list_append_plain (hsz := by rw [List.size_toArray]; omega) ⟨c, gD⟩ fun h9 p9 sb9 => ?_
        obtain ⟨c9, g9⟩ := p9
        have g9' : h9.get? D = some { cls := .type "list", data := .seq (its ++ [yv]).toArray c9 } := by simpa using g9
        have I9 : Inv (cxComp X scope cl C (xs ++ cs) fp s2 H2) [] (nos xs ++ caps js σ) H8 { s8 with heap := h9 } :=
          (weak (I8.pins_of (pins' := []) (fun p hp => nomatch hp))).turned (t' := s8.toks) (it := D) (fun b o hb e => (sb9.2 b hb).trans e) nD dC (.inr (by show s2.heap.objs.size ≤ D; omega)) (fun y c e z => by have q := clLt y c e; subst z; omega) (fun p hp => nomatch hp)
        refine ⟨m', hm, i + 1, ys ++ [y], its ++ [yv], c9, H8, I9.pins_of fun p hp => ?_, ?_, (tnK I8).2, rv.append (.cons r8 .nil), w8⟩
        · have : p = (D, { cls := .type "list", data := .seq (its ++ [yv]).toArray c9 }) := by simpa using hp
          subst this
          exact ⟨g9', nD, dC, dF, fun v z => by cases z⟩
        · exact T.keep _ _ _ st5 fun b hb o e => (sb9.2 b (fun z => Dfp (z ▸ hb))).trans ((tnK I8).1 b hb o e)
  exact codeAny_compStart_list (loop _ rfl) (T.self _ 0 _ _ _ (T.keep _ _ _ st2 fun b _ o e => old b o e) (loop _ rfl))
theorem pe_compT {g : TG} {wi : TI} (hc : X.calm = true) (xs cs : List Str) (js : List Nat) (hi : PI X (tg) iter wi) (hcap : CapOk X scope cs js) (ht : ∀ cl C fp s H, PTs (cxComp X scope cl C (xs ++ cs) fp s H) ifs tt) (he : ∀ cl C fp s H, PE (cxComp X scope cl C (xs ++ cs) fp s H) elt te)
    (hall : ∀ y ∈ scope.names, y.2 = .free → y.1 ∈ cs) (hcell : ∀ y ∈ scope.names, y.2 ≠ .cell) (hnames : ∀ y ∈ scope.names, y.2 = .local → scope.names.lookup y.1 = some .local) (hg : ∀ cl C fp s H, PG (cxComp X scope cl C (xs ++ cs) fp s H) tg g)
    (hkind : scope.kind = .function := by rfl) (hs : ∀ v, foldedSetIterable iter X.env v = pure v := by intro _; rfl) :
    PE X (.ListComp elt [⟨tg, iter, ifs, 0⟩] scope pos) (tCompT xs js wi g tt te) := by
  intro pins s σ H Q I h
  obtain ⟨cl, hcl0, hcl1, hcl2⟩ := closure_mk (env := X.env) (scope := scope) fun n hn => by
    obtain ⟨j, hj⟩ := List.getElem?_of_mem (hall _ hn rfl)
    obtain ⟨_, _, _, _, k⟩ := hcap.get hj
    exact I.ok.has n k
  rw [eval_ListComp]
  refine wpAny_comprehension_free (use := none) rfl hs hcl0 hkind hnames (thn (hi pins s σ H _ I h) fun v s1 h1 => thn h1 fun itv s2 h2 => ?_)
  obtain ⟨it, fp, tn, J, H2, e, I2, T, st2, f2, W, w0, step⟩ := h2
  subst e
  refine compT_block (Q := Q) (RR := fun acc C => compPost (model X.prog X.w) X.A X.xe none (EP X pins σ Q) acc C) hc hcap ht he hcell hkind hg hcl1 hcl2 I2 T st2 f2 W w0 step fun D C H3 s4 m' I4 hn hC hH q => ?_
  exact ⟨m', hn, fun h' sb => ⟨.ref D, H3, I2.letGo I4 hC hH sb, rfl, q⟩⟩
theorem ps_compT {g : TG} {wi : TI} {y : Str} {py spos : Pos} {k : Nat} (hc : X.calm = true) (xs cs : List Str) (js : List Nat) (hN : X.N.Nodup) (hk : X.N[k]? = some y) (hy : X.env.scope.names.lookup y = some .local) (hi : PI X (tg) iter wi) (hcap : CapOk X scope cs js)
    (ht : ∀ cl C fp s H, PTs (cxComp X scope cl C (xs ++ cs) fp s H) ifs tt) (he : ∀ cl C fp s H, PE (cxComp X scope cl C (xs ++ cs) fp s H) elt te)
    (hall : ∀ y ∈ scope.names, y.2 = .free → y.1 ∈ cs) (hcell : ∀ y ∈ scope.names, y.2 ≠ .cell) (hnames : ∀ y ∈ scope.names, y.2 = .local → scope.names.lookup y.1 = some .local) (hg : ∀ cl C fp s H, PG (cxComp X scope cl C (xs ++ cs) fp s H) tg g)
    (hsw : swapsWith (.ListComp elt [⟨tg, iter, ifs, 0⟩] scope pos) (some (.Name y py)) spos.line X.env = pure true := by rfl)
    (hkind : scope.kind = .function := by rfl) (hs : ∀ v, foldedSetIterable iter X.env v = pure v := by intro _; rfl) :
    PS X (.Assign [.Name y py] (.ListComp elt [⟨tg, iter, ifs, 0⟩] scope pos) spos) (tAsg (tCompT xs js wi g tt te) (gName k)) := by
  intro pins s σ H D I h
  obtain ⟨cl, hcl0, hcl1, hcl2⟩ := closure_mk (env := X.env) (scope := scope) fun n hn => by
    obtain ⟨j, hj⟩ := List.getElem?_of_mem (hall _ hn rfl)
    obtain ⟨_, _, _, _, k⟩ := hcap.get hj
    exact I.ok.has n k
  rw [exec_Assign_Name_used _ _ _ _ hsw]
  refine wpAny_bind (wpAny_standAt (wpAny_bind ?_))
  show wpAny _ X.A (do let _ ← comprehension (.ListComp elt [⟨tg, iter, ifs, 0⟩] scope pos) scope X.env _ (newList []) false (eval iter X.env) (some (assign (.Name y py) X.env))) _ _ s
  refine wpAny_bind (thn (wpAny_comprehension_free (use := some (assign (.Name y py) X.env)) (Q := fun _ s' => SP X pins D .next s') rfl hs hcl0 hkind hnames (thn (hi pins s σ H _ I h) fun v s1 h1 => thn h1 fun itv s2 h2 => ?_)) (fun _ s' q => wpAny_pure (wpAny_pure q)))
  obtain ⟨it, fp, tn, J, H2, e, I2, T, st2, f2, W, w0, step⟩ := h2
  subst e
  refine compT_block (Q := fun x H1 => gName k x σ H1 D.nx) (RR := fun acc C => compPost (model X.prog X.w) X.A X.xe (some (assign (.Name y py) X.env)) (fun _ s' => SP X pins D .next s') acc C) hc hcap ht he hcell hkind hg hcl1 hcl2 I2 T st2 f2 W w0 step fun D' C H3 s4 m' I4 hn hC hH q => ?_
  show wpAny _ X.A (assign (.Name y py) X.env (.ref D')) _ _ _
  refine wpAny_assign_Name (store_ok2 (v := .ref D') I4 hN hk (.inl hy) rfl (fun s5 I5 ⟨a, sb, ha⟩ => ?_) (.inr hy))
  have neC : C ≠ a := by
    rcases ha with e | e
    · rw [e]; exact Nat.ne_of_gt (Nat.lt_of_lt_of_le I2.lt hC)
    · intro z
      obtain ⟨v, q⟩ := I2.cell y a e
      exact absurd (Nat.lt_of_lt_of_le q.lt (by rw [← z]; exact hC)) (Nat.lt_irrefl _)
  exact ⟨m', hn.sameBut sb neC, fun h' sb' => ⟨_, H3, I2.letGo I5 hC hH sb', q⟩⟩
end
end L2
namespace L2
open PySem PySem.Spec PySem.W PySem.Calls PyProof.Rows
section
variable {X : Cx} {pins : List (Addr × Obj)} {σ : St} {H : Hp} {s : Shared}
end
end L2
namespace S
open PySem PySem.Spec PyProof.Rows L2
inductive D where
  | non | bl (b : Bool) | int (i : Int) | str (x : Str) | tup (ds : List D) | ref (n : Nat) | cl (ds : List D) | ty (n : String) | cls (c : Nat) | exc (c : Nat) (d : D)
inductive MO where
  | lst (ds : List D) | ins (c : Nat) (fs : List (Str × D)) | dk (kvs : List (Key × D)) | dt (kvs : List (List Key × D))
abbrev St := L2.St
abbrev Mem := List MO
abbrev Sl := List (Option D)
inductive Out (α : Type) where
  | ok (a : α) (M : Mem)
  | exc (c : Nat) (d : D) (M : Mem)
  | bad
def Out.bind {α β : Type} (o : Out α) (f : α → Mem → Out β) : Out β := match o with
  | .ok a M => f a M
  | .exc c d M => .exc c d M
  | .bad => .bad
@[simp] theorem Out.bind_exc {α β : Type} (c : Nat) (d : D) (M : Mem) (f : α → Mem → Out β) : (Out.exc c d M : Out α).bind f = .exc c d M := id rfl
@[simp] theorem Out.bind_ok {α β : Type} (a : α) (M : Mem) (f : α → Mem → Out β) : (Out.ok a M).bind f = f a M := id rfl
@[simp] theorem Out.bind_bad {α β : Type} (f : α → Mem → Out β) : (Out.bad : Out α).bind f = .bad := id rfl
def FrL (K : PySem.W.Frag) (H : Hp) (a : Addr) (xs : List V) : Prop := (∃ o, H a = some (.frz o (.lst xs))) ∨
  ∃ (o : Obj) (its : Array Value) (n : Nat), K.lookup a = some o ∧ o.cls = .type "list" ∧ o.dict = none ∧ o.data = .seq its n ∧ its.size ≤ sizeLine ∧ Vals xs its.toList
theorem FrL.sq {K : PySem.W.Frag} {H : Hp} {a : Addr} {xs : List V} (h : FrL K H a xs) : SqL K H a xs := h.elim (fun z => .inl (.inr z)) .inr
mutual
inductive DV (K : PySem.W.Frag) (ct ι : Nat → Addr) (n : Nat) (H : Hp) : D → V → Prop
  | non : DV K ct ι n H .non .non
  | bl (b : Bool) : DV K ct ι n H (.bl b) (.bl b)
  | int (i : Int) : DV K ct ι n H (.int i) (.int i)
  | str (x : Str) : DV K ct ι n H (.str x) (.str x)
  | tup {a : Addr} {xs : List V} {ds : List D} : H a = some (.tup xs) → DVs K ct ι n H ds xs → DV K ct ι n H (.tup ds) (.ref a)
  | ref {i : Nat} : i < n → DV K ct ι n H (.ref i) (.ref (ι i))
  | cl {a : Addr} {xs : List V} {ds : List D} : FrL K H a xs → DVs K ct ι n H ds xs → DV K ct ι n H (.cl ds) (.ref a)
  | ty (s : String) : DV K ct ι n H (.ty s) (.ty s)
  | cls (c : Nat) : DV K ct ι n H (.cls c) (.ref (ct c))
  | exc {a dx : Addr} {c : Nat} {d : D} {v : V} : H a = some (xC a (ct c) dx) → H dx = some (.xd [("at", v)]) → DV K ct ι n H d v → DV K ct ι n H (.exc c d) (.ref a)
inductive DVs (K : PySem.W.Frag) (ct ι : Nat → Addr) (n : Nat) (H : Hp) : List D → List V → Prop
  | nil : DVs K ct ι n H [] []
  | cons {d : D} {x : V} {ds : List D} {xs : List V} : DV K ct ι n H d x → DVs K ct ι n H ds xs → DVs K ct ι n H (d :: ds) (x :: xs)
end
structure Ext (K : PySem.W.Frag) (ι : Nat → Addr) (n : Nat) (H : Hp) (ι' : Nat → Addr) (n' : Nat) (H' : Hp) : Prop where
  tup : ∀ a xs, H a = some (.tup xs) → H' a = some (.tup xs)
  frz : ∀ a xs, FrL K H a xs → FrL K H' a xs
  ex : ∀ a φ, H a = some (.ext φ) → H' a = some (.ext φ)
  xd : ∀ a fs, H a = some (.xd fs) → H' a = some (.xd fs)
  le : n ≤ n'
  same : ∀ i, i < n → ι' i = ι i
theorem Ext.refl {K : PySem.W.Frag} {ι : Nat → Addr} {n : Nat} {H : Hp} : Ext K ι n H ι n H := ⟨fun _ _ h => h, fun _ _ h => h, fun _ _ h => h, fun _ _ h => h, Nat.le_refl _, fun _ _ => rfl⟩
theorem Ext.trans {K : PySem.W.Frag} {ι ι1 ι2 : Nat → Addr} {n n1 n2 : Nat} {H H1 H2 : Hp} (a : Ext K ι n H ι1 n1 H1) (b : Ext K ι1 n1 H1 ι2 n2 H2) : Ext K ι n H ι2 n2 H2 :=
  ⟨fun x xs h => b.tup x xs (a.tup x xs h), fun x xs h => b.frz x xs (a.frz x xs h), fun x xs h => b.ex x xs (a.ex x xs h), fun x xs h => b.xd x xs (a.xd x xs h), Nat.le_trans a.le b.le, fun i hi => (b.same i (Nat.lt_of_lt_of_le hi a.le)).trans (a.same i hi)⟩
mutual
theorem DV.mono {K : PySem.W.Frag} {ct ι ι' : Nat → Addr} {n n' : Nat} {H H' : Hp} (e : Ext K ι n H ι' n' H') : ∀ {d : D} {v : V}, DV K ct ι n H d v → DV K ct ι' n' H' d v
  | _, _, .non => .non
  | _, _, .bl b => .bl b
  | _, _, .int i => .int i
  | _, _, .str x => .str x
  | _, _, .tup h hs => .tup (e.tup _ _ h) (DVs.mono e hs)
  | _, _, .ref (i := i) h => by rw [← e.same i h]; exact .ref (Nat.lt_of_lt_of_le h e.le)
  | _, _, .cl h hs => .cl (e.frz _ _ h) (DVs.mono e hs)
  | _, _, .ty s => .ty s
  | _, _, .cls c => .cls c
  | _, _, .exc h1 h2 h3 => .exc (e.ex _ _ h1) (e.xd _ _ h2) (DV.mono e h3)
theorem DVs.mono {K : PySem.W.Frag} {ct ι ι' : Nat → Addr} {n n' : Nat} {H H' : Hp} (e : Ext K ι n H ι' n' H') : ∀ {ds : List D} {vs : List V}, DVs K ct ι n H ds vs → DVs K ct ι' n' H' ds vs
  | _, _, .nil => .nil
  | _, _, .cons h hs => .cons (DV.mono e h) (DVs.mono e hs)
end
section
variable {K : PySem.W.Frag} {ct ι : Nat → Addr} {n : Nat} {H : Hp}
theorem DVs.length : ∀ {ds : List D} {vs : List V}, DVs K ct ι n H ds vs → vs.length = ds.length
  | _, _, .nil => rfl
  | _, _, .cons _ h => congrArg (· + 1) h.length
theorem DVs.get : ∀ {ds : List D} {vs : List V} {i : Nat} {v : V}, DVs K ct ι n H ds vs → vs[i]? = some v → ∃ d, ds[i]? = some d ∧ DV K ct ι n H d v
  | _, _, _, _, .nil, e => by simp at e
  | _, _, 0, _, .cons h _, e => by simp at e; subst e; exact ⟨_, rfl, h⟩
  | _, _, i + 1, _, .cons _ hs, e => by simpa using hs.get (i := i) (by simpa using e)
theorem DVs.at : ∀ {ds : List D} {vs : List V} {i : Nat} {d : D}, DVs K ct ι n H ds vs → ds[i]? = some d → ∃ v, vs[i]? = some v ∧ DV K ct ι n H d v
  | _, _, _, _, .nil, e => by simp at e
  | _, _, 0, _, .cons h _, e => by simp at e; subst e; exact ⟨_, rfl, h⟩
  | _, _, i + 1, _, .cons _ hs, e => by simpa using hs.at (i := i) (by simpa using e)
theorem DVs.append : ∀ {ds es : List D} {vs ws : List V}, DVs K ct ι n H ds vs → DVs K ct ι n H es ws → DVs K ct ι n H (ds ++ es) (vs ++ ws)
  | _, _, _, _, .nil, h => h
  | _, _, _, _, .cons h hs, h' => .cons h (hs.append h')
theorem DVs.take : ∀ {ds : List D} {vs : List V} (k : Nat), DVs K ct ι n H ds vs → DVs K ct ι n H (ds.take k) (vs.take k)
  | _, _, 0, _ => by simp; exact .nil
  | _, _, _ + 1, .nil => by simp; exact .nil
  | _, _, k + 1, .cons h hs => by simp; exact .cons h (hs.take k)
theorem DVs.drop : ∀ {ds : List D} {vs : List V} (k : Nat), DVs K ct ι n H ds vs → DVs K ct ι n H (ds.drop k) (vs.drop k)
  | _, _, 0, h => by simpa using h
  | _, _, _ + 1, .nil => by simp; exact .nil
  | _, _, k + 1, .cons _ hs => by simp; exact hs.drop k
theorem DVs.set : ∀ {ds : List D} {vs : List V} {d : D} {v : V} (i : Nat), DVs K ct ι n H ds vs → DV K ct ι n H d v → DVs K ct ι n H (ds.set i d) (vs.set i v)
  | _, _, _, _, _, .nil, _ => by simp; exact .nil
  | _, _, _, _, 0, .cons _ hs, h => by simp; exact .cons h hs
  | _, _, _, _, i + 1, .cons h' hs, h => by simp; exact .cons h' (hs.set i h)
end
inductive FVs (K : PySem.W.Frag) (ct ι : Nat → Addr) (n : Nat) (H : Hp) : List (Str × D) → List (Str × V) → Prop
  | nil : FVs K ct ι n H [] []
  | cons {x : Str} {d : D} {v : V} {fs : List (Str × D)} {vs : List (Str × V)} : DV K ct ι n H d v → FVs K ct ι n H fs vs → FVs K ct ι n H ((x, d) :: fs) ((x, v) :: vs)
theorem FVs.mono {K : PySem.W.Frag} {ct ι ι' : Nat → Addr} {n n' : Nat} {H H' : Hp} (e : Ext K ι n H ι' n' H') : ∀ {fs : List (Str × D)} {vs : List (Str × V)}, FVs K ct ι n H fs vs → FVs K ct ι' n' H' fs vs
  | _, _, .nil => .nil
  | _, _, .cons h hs => .cons (h.mono e) (hs.mono e)
def putD (f : Str) (d : D) : List (Str × D) → List (Str × D)
  | [] => [(f, d)]
  | (x, e) :: r => if x = f then (x, d) :: r else (x, e) :: putD f d r
section
variable {K : PySem.W.Frag} {ct ι : Nat → Addr} {n : Nat} {H : Hp}
theorem FVs.length : ∀ {fs : List (Str × D)} {vs : List (Str × V)}, FVs K ct ι n H fs vs → vs.length = fs.length
  | _, _, .nil => rfl
  | _, _, .cons _ h => congrArg (· + 1) h.length
theorem FVs.look {x : Str} : ∀ {fs : List (Str × D)} {vs : List (Str × V)} {d : D}, FVs K ct ι n H fs vs → fs.lookup x = some d → ∃ v, vs.lookup x = some v ∧ DV K ct ι n H d v
  | _, _, _, .nil, e => by simp at e
  | _, _, d, .cons (x := y) h hs, e => by
    rw [List.lookup_cons] at e ⊢
    cases z : x == y with
    | true => rw [z] at e; exact ⟨_, rfl, by cases e; exact h⟩
    | false => rw [z] at e; exact hs.look e
theorem FVs.lookN {x : Str} : ∀ {fs : List (Str × D)} {vs : List (Str × V)}, FVs K ct ι n H fs vs → fs.lookup x = none → vs.lookup x = none
  | _, _, .nil, _ => rfl
  | _, _, .cons (x := y) h hs, e => by
    rw [List.lookup_cons] at e ⊢
    cases z : x == y with
    | true => rw [z] at e; cases e
    | false => rw [z] at e; exact hs.lookN e
end
inductive PVs (K : PySem.W.Frag) (ct ι : Nat → Addr) (n : Nat) (H : Hp) {κ : Type} : List (κ × D) → List (κ × V) → Prop
  | nil : PVs K ct ι n H [] []
  | cons {x : κ} {d : D} {v : V} {fs : List (κ × D)} {vs : List (κ × V)} : DV K ct ι n H d v → PVs K ct ι n H fs vs → PVs K ct ι n H ((x, d) :: fs) ((x, v) :: vs)
theorem PVs.mono {K : PySem.W.Frag} {ct ι ι' : Nat → Addr} {n n' : Nat} {H H' : Hp} (e : Ext K ι n H ι' n' H') {κ : Type} : ∀ {fs : List (κ × D)} {vs : List (κ × V)}, PVs K ct ι n H fs vs → PVs K ct ι' n' H' fs vs
  | _, _, .nil => .nil
  | _, _, .cons h hs => .cons (h.mono e) (hs.mono e)
theorem PVs.length {K : PySem.W.Frag} {ct ι : Nat → Addr} {n : Nat} {H : Hp} {κ : Type} : ∀ {fs : List (κ × D)} {vs : List (κ × V)}, PVs K ct ι n H fs vs → vs.length = fs.length
  | _, _, .nil => rfl
  | _, _, .cons _ h => congrArg (· + 1) h.length
def OR (K : PySem.W.Frag) (ct ι : Nat → Addr) (n : Nat) (H : Hp) (a : Addr) : MO → Prop
  | .lst ds => ∃ vs, H a = some (.lst vs) ∧ DVs K ct ι n H ds vs
  | .ins c fs => ∃ dx vs, H a = some (.ins (ct c) dx vs) ∧ FVs K ct ι n H fs vs
  | .dk kvs => ∃ vs, H a = some (.dK vs) ∧ PVs K ct ι n H kvs vs
  | .dt kvs => ∃ vs, H a = some (.dT vs) ∧ PVs K ct ι n H kvs vs
structure Rl (K : PySem.W.Frag) (ct ι : Nat → Addr) (M : Mem) (H : Hp) : Prop where
  inj : ∀ i j, i < M.length → j < M.length → ι i = ι j → i = j
  obj : ∀ (i : Nat) (o : MO), M[i]? = some o → OR K ct ι M.length H (ι i) o
structure Ws (K : PySem.W.Frag) (ct ι : Nat → Addr) (e : Sl) (M : Mem) (σ : St) (H : Hp) : Prop where
  rl : Rl K ct ι M H
  len : σ.length = e.length
  env : ∀ (i : Nat) (d : D), e[i]? = some (some d) → ∃ v, σ[i]? = some (some v) ∧ DV K ct ι M.length H d v
section
variable {K : PySem.W.Frag} {ct ι : Nat → Addr} {M : Mem} {H : Hp}
theorem OR.some {a : Addr} {n : Nat} {o : MO} (h : OR K ct ι n H a o) : ∃ u, H a = some u := by
  cases o with
  | lst ds => obtain ⟨vs, e, _⟩ := h; exact ⟨_, e⟩
  | ins c fs => obtain ⟨dx, vs, e, _⟩ := h; exact ⟨_, e⟩
  | dk kvs => obtain ⟨vs, e, _⟩ := h; exact ⟨_, e⟩
  | dt kvs => obtain ⟨vs, e, _⟩ := h; exact ⟨_, e⟩
theorem frL_upd {p : Addr} {o : HO} (hp : ∀ b u, H p ≠ some (.frz b u)) {a : Addr} {xs : List V} (h : FrL K H a xs) : FrL K (upd H p o) a xs := by
  rcases h with ⟨b, h⟩ | h
  · have ne : a ≠ p := fun e => by subst e; exact hp _ _ h
    exact .inl ⟨b, by rw [upd_ne ne]; exact h⟩
  · exact .inr h
theorem no_frz {p : Addr} (hp : H p = none) : ∀ b u, H p ≠ some (.frz b u) := fun b u h => by rw [hp] at h; cases h
theorem OR.keep {ι' : Nat → Addr} {n n' : Nat} {H' : Hp} {a a' : Addr} {o : MO} (e : Ext K ι n H ι' n' H') (ea : a' = a) (hh : H' a = H a) (h : OR K ct ι n H a o) : OR K ct ι' n' H' a' o := by
  subst ea
  cases o with
  | lst ds => obtain ⟨vs, q, r⟩ := h; exact ⟨vs, by rw [hh]; exact q, r.mono e⟩
  | ins c fs => obtain ⟨dx, vs, q, r⟩ := h; exact ⟨dx, vs, by rw [hh]; exact q, r.mono e⟩
  | dk kvs => obtain ⟨vs, q, r⟩ := h; exact ⟨vs, by rw [hh]; exact q, r.mono e⟩
  | dt kvs => obtain ⟨vs, q, r⟩ := h; exact ⟨vs, by rw [hh]; exact q, r.mono e⟩
def inew (ι : Nat → Addr) (n : Nat) (p : Addr) : Nat → Addr := fun i => if i = n then p else ι i
theorem keep_upd {p a : Addr} {o u : HO} (hp : H p = none) (h : H a = some u) : upd H p o a = some u := by rw [upd_ne (ne_of_none h hp)]; exact h
theorem Ext.fresh {n : Nat} {p : Addr} {o : HO} (hp : H p = none) : Ext K ι n H ι n (upd H p o) := ⟨fun _ _ h => keep_upd hp h, fun _ _ h => frL_upd (no_frz hp) h, fun _ _ h => keep_upd hp h, fun _ _ h => keep_upd hp h, Nat.le_refl _, fun _ _ => rfl⟩
theorem Rl.lt (R : Rl K ct ι M H) {i : Nat} {o : MO} (h : M[i]? = some o) : ∃ u, H (ι i) = some u := (R.obj i o h).some
theorem Rl.fresh (R : Rl K ct ι M H) {p : Addr} {o : HO} (hp : H p = none) : Rl K ct ι M (upd H p o) := by
  refine ⟨R.inj, fun i x h => ?_⟩
  obtain ⟨u, hu⟩ := R.lt h
  exact (R.obj i x h).keep (Ext.fresh hp) rfl (upd_ne (ne_of_none hu hp))
theorem Ext.new {p : Addr} {o : HO} (hp : H p = none) : Ext K ι M.length H (inew ι M.length p) (M.length + 1) (upd H p o) :=
  ⟨fun _ _ h => keep_upd hp h, fun _ _ h => frL_upd (no_frz hp) h, fun _ _ h => keep_upd hp h, fun _ _ h => keep_upd hp h, Nat.le_succ _, fun i hi => by unfold inew; rw [if_neg (Nat.ne_of_lt hi)]⟩
theorem Rl.new (R : Rl K ct ι M H) {p : Addr} {o : HO} {x : MO} (hp : H p = none) (h : OR K ct (inew ι M.length p) (M.length + 1) (upd H p o) p x) : Rl K ct (inew ι M.length p) (M ++ [x]) (upd H p o) := by
  have ne : ∀ i, i < M.length → ι i ≠ p := fun i hi => by
    obtain ⟨u, hu⟩ := R.lt (List.getElem?_eq_getElem hi)
    exact ne_of_none hu hp
  have el : (M ++ [x]).length = M.length + 1 := by simp
  refine ⟨fun i j hi hj e => ?_, fun i y hy => ?_⟩
  · rw [el] at hi hj
    unfold inew at e
    by_cases a : i = M.length
    · by_cases b : j = M.length
      · rw [a, b]
      · rw [if_pos a, if_neg b] at e
        exact absurd e.symm (ne j (by omega))
    · by_cases b : j = M.length
      · rw [if_neg a, if_pos b] at e
        exact absurd e (ne i (by omega))
      · rw [if_neg a, if_neg b] at e
        exact R.inj i j (by omega) (by omega) e
  · rw [el]
    by_cases a : i < M.length
    · rw [List.getElem?_append_left a] at hy
      obtain ⟨u, hu⟩ := R.lt hy
      refine (R.obj i y hy).keep (Ext.new hp) ?_ (upd_ne (ne_of_none hu hp))
      unfold inew
      rw [if_neg (Nat.ne_of_lt a)]
    · have hi : i < (M ++ [x]).length := (List.getElem?_eq_some_iff.mp hy).1
      have e : i = M.length := by rw [el] at hi; omega
      subst e
      rw [List.getElem?_append_right (Nat.le_refl _)] at hy
      simp at hy
      subst hy
      have : inew ι M.length p M.length = p := by unfold inew; rw [if_pos rfl]
      rw [this]
      exact h
theorem Ext.chg {n : Nat} {a : Addr} {o u : HO} (h : H a = some u) (hu : ∀ xs, u ≠ .tup xs) (hz : ∀ b x, u ≠ .frz b x) (hx : ∀ φ, u ≠ .ext φ := by exact fun _ z => nomatch z) (hd : ∀ fs, u ≠ .xd fs := by exact fun _ z => nomatch z) : Ext K ι n H ι n (upd H a o) :=
  ⟨fun b xs q => by
    rw [upd_ne (fun e => by subst e; rw [h] at q; exact hu xs (Option.some.inj q))]; exact q, fun _ _ q => frL_upd (fun b x r => by rw [h] at r; exact hz b x (Option.some.inj r)) q, fun b φ q => by
    rw [upd_ne (fun e => by subst e; rw [h] at q; exact hx φ (Option.some.inj q))]; exact q, fun b fs q => by
    rw [upd_ne (fun e => by subst e; rw [h] at q; exact hd fs (Option.some.inj q))]; exact q, Nat.le_refl _, fun _ _ => rfl⟩
theorem Rl.chg (R : Rl K ct ι M H) {i : Nat} {o u : HO} {x : MO} (hi : i < M.length) (h : H (ι i) = some u) (hu : ∀ xs, u ≠ .tup xs) (hz : ∀ b x, u ≠ .frz b x) (hx : OR K ct ι M.length (upd H (ι i) o) (ι i) x) (hex : ∀ φ, u ≠ .ext φ := by exact fun _ z => nomatch z) (hxd : ∀ fs, u ≠ .xd fs := by exact fun _ z => nomatch z) : Rl K ct ι (M.set i x) (upd H (ι i) o) := by
  refine ⟨fun j k hj hk e => R.inj j k (by simpa using hj) (by simpa using hk) e, fun j y hy => ?_⟩
  rw [List.length_set]
  by_cases e : i = j
  · subst e
    rw [List.getElem?_set_self hi] at hy
    cases hy
    exact hx
  · rw [List.getElem?_set_ne e] at hy
    have hj : j < M.length := (List.getElem?_eq_some_iff.mp hy).1
    exact (R.obj j y hy).keep (Ext.chg h hu hz hex hxd) rfl (upd_ne fun z => e (R.inj i j hi hj z.symm))
theorem Ws.ext {ι' : Nat → Addr} {e : Sl} {M' : Mem} {σ : St} {H' : Hp} (w : Ws K ct ι e M σ H) (x : Ext K ι M.length H ι' M'.length H') (r : Rl K ct ι' M' H') : Ws K ct ι' e M' σ H' :=
  ⟨r, w.len, fun i d h => let ⟨v, a, b⟩ := w.env i d h; ⟨v, a, b.mono x⟩⟩
theorem Ws.set {e : Sl} {σ : St} {d : D} {v : V} (w : Ws K ct ι e M σ H) (i : Nat) (h : DV K ct ι M.length H d v) : Ws K ct ι (e.set i (some d)) M (σ.set i (some v)) H := by
  refine ⟨w.rl, by simp [w.len], fun j d' hj => ?_⟩
  by_cases z : i = j
  · subst z
    have hi : i < e.length := by have := (List.getElem?_eq_some_iff.mp hj).1; simpa using this
    rw [List.getElem?_set_self hi] at hj
    cases hj
    exact ⟨v, List.getElem?_set_self (by rw [w.len]; exact hi), h⟩
  · rw [List.getElem?_set_ne z] at hj
    obtain ⟨v', a, b⟩ := w.env j d' hj
    exact ⟨v', by rw [List.getElem?_set_ne z]; exact a, b⟩
end
theorem Ws.clear {K : PySem.W.Frag} {ct ι : Nat → Addr} {M : Mem} {H : Hp} {e : Sl} {σ : St} (w : Ws K ct ι e M σ H) (i : Nat) : Ws K ct ι (e.set i none) M (σ.set i none) H := by
  refine ⟨w.rl, by simp [w.len], fun j d' hj => ?_⟩
  by_cases z : i = j
  · subst z
    have hi : i < e.length := by have := (List.getElem?_eq_some_iff.mp hj).1; simpa using this
    rw [List.getElem?_set_self hi] at hj
    cases hj
  · rw [List.getElem?_set_ne z] at hj
    obtain ⟨v', a, b⟩ := w.env j d' hj
    exact ⟨v', by rw [List.getElem?_set_ne z]; exact a, b⟩
abbrev XW := Addr → Addr → Hp → Prop
def wAt (W : XWish) (σ : St) : XW := fun C dx H => W C dx σ H
def W0 : XWish := fun _ _ _ _ => False
def PostG {α β : Type} (rel : (Nat → Addr) → Mem → Hp → α → β → Prop) (K : PySem.W.Frag) (ct : Nat → Addr) (w : XW) (ι : Nat → Addr) (n : Nat) (H : Hp) (o : Out α) (Q : β → Hp → Prop) : Prop := match o with
  | .ok a M' => ∀ ι' b H', Ext K ι n H ι' M'.length H' → Rl K ct ι' M' H' → rel ι' M' H' a b → Q b H'
  | .exc c d M' => ∀ ι' dx v H', Ext K ι n H ι' M'.length H' → Rl K ct ι' M' H' → H' dx = some (.xd [("at", v)]) → DV K ct ι' M'.length H' d v → w (ct c) dx H'
  | .bad => False
def tG {α β : Type} (rel : (Nat → Addr) → Mem → Hp → α → β → Prop) (K : PySem.W.Frag) (ct : Nat → Addr) (W : XWish) (m : Sl → Mem → Out α) (σ : St) (H : Hp) (Q : β → Hp → Prop) : Prop :=
  ∃ ι e M, Ws K ct ι e M σ H ∧ PostG rel K ct (wAt W σ) ι M.length H (m e M) Q
abbrev relD (K : PySem.W.Frag) (ct : Nat → Addr) : (Nat → Addr) → Mem → Hp → D → V → Prop := fun ι M H d v => DV K ct ι M.length H d v
abbrev relA (K : PySem.W.Frag) (ct : Nat → Addr) : (Nat → Addr) → Mem → Hp → List D → List V → Prop := fun ι M H d v => DVs K ct ι M.length H d v
abbrev relB : (Nat → Addr) → Mem → Hp → Bool → Bool → Prop := fun _ _ _ a b => a = b
abbrev ME := Sl → Mem → Out D
abbrev MT := Sl → Mem → Out Bool
abbrev MA := Sl → Mem → Out (List D)
def SE (X : Cx) (ct : Nat → Addr) (W : XWish) (e : Expr) (m : ME) : Prop := PE X e (tG (relD X.K ct) X.K ct W m)
def STt (X : Cx) (ct : Nat → Addr) (W : XWish) (e : Expr) (m : MT) : Prop := PT X e (tG relB X.K ct W m)
def SW (X : Cx) (ct : Nat → Addr) (W : XWish) (e : Expr) (m : MT) : Prop := PW X e (tG relB X.K ct W m)
def SA (X : Cx) (ct : Nat → Addr) (W : XWish) (es : List Expr) (m : MA) : Prop := PA X es (tG (relA X.K ct) X.K ct W m)
theorem SW.pt {X : Cx} {ct : Nat → Addr} {W : XWish} {e : Expr} {m : MT} (h : SW X ct W e m) : STt X ct W e m := PW.pt h
section
variable {X : Cx} {ct : Nat → Addr}
theorem PE.imp {e : Expr} {t t' : TE} (h : PE X e t) (hi : ∀ σ H Q, t' σ H Q → t σ H Q) : PE X e t' := fun pins s σ H Q I q => h pins s σ H Q I (hi σ H Q q)
theorem PT.imp {e : Expr} {t t' : TT} (h : PT X e t) (hi : ∀ σ H Q, t' σ H Q → t σ H Q) : PT X e t' := fun pins s σ H Q I q => h pins s σ H Q I (hi σ H Q q)
theorem PW.imp {e : Expr} {t t' : TT} (h : PW X e t) (hi : ∀ σ H Q, t' σ H Q → t σ H Q) : PW X e t' := fun wh pins s σ H Q I q => h wh pins s σ H Q I (hi σ H Q q)
theorem PA.imp {es : List Expr} {t t' : TA} (h : PA X es t) (hi : ∀ σ H Q, t' σ H Q → t σ H Q) : PA X es t' := fun pos pins s σ H Q I q => h pos pins s σ H Q I (hi σ H Q q)
end
theorem PostG.ext {α β : Type} {rel : (Nat → Addr) → Mem → Hp → α → β → Prop} {K : PySem.W.Frag} {ct ι ι' : Nat → Addr} {w : XW} {n n' : Nat} {H H' : Hp} {o : Out α} {Q : β → Hp → Prop} (h : PostG rel K ct w ι n H o Q) (x : Ext K ι n H ι' n' H') : PostG rel K ct w ι' n' H' o Q := by
  cases o with
  | ok a M => exact fun ι2 b H2 x2 r q => h ι2 b H2 (x.trans x2) r q
  | exc c d M => exact fun ι2 dx v H2 x2 r q1 q2 => h ι2 dx v H2 (x.trans x2) r q1 q2
  | bad => exact h
theorem PostG.mono {α β : Type} {rel : (Nat → Addr) → Mem → Hp → α → β → Prop} {K : PySem.W.Frag} {ct ι : Nat → Addr} {w : XW} {n : Nat} {H : Hp} {o : Out α} {Q Q' : β → Hp → Prop} (h : PostG rel K ct w ι n H o Q) (x : ∀ b H, Q b H → Q' b H) : PostG rel K ct w ι n H o Q' := by
  cases o with
  | ok a M => exact fun ι2 b H2 x2 r q => x b H2 (h ι2 b H2 x2 r q)
  | exc c d M => exact h
  | bad => exact h
def Then {α β γ δ : Type} (relα : (Nat → Addr) → Mem → Hp → α → β → Prop) (relγ : (Nat → Addr) → Mem → Hp → γ → δ → Prop) (K : PySem.W.Frag) (ct : Nat → Addr) (W : XWish) (f : α → Sl → Mem → Out γ) (σ : St) (Q : δ → Hp → Prop) (b : β) (H1 : Hp) : Prop :=
  ∃ ι e M a, Ws K ct ι e M σ H1 ∧ relα ι M H1 a b ∧ PostG relγ K ct (wAt W σ) ι M.length H1 (f a e M) Q
theorem tG_bind {α β γ δ : Type} {relα : (Nat → Addr) → Mem → Hp → α → β → Prop} {relγ : (Nat → Addr) → Mem → Hp → γ → δ → Prop} {K : PySem.W.Frag} {ct : Nat → Addr} {W : XWish} {ma : Sl → Mem → Out α} {f : α → Sl → Mem → Out γ} {σ : St} {H : Hp} {Q : δ → Hp → Prop}
    (h : tG relγ K ct W (fun e M => (ma e M).bind fun a M1 => f a e M1) σ H Q) : tG relα K ct W ma σ H (Then relα relγ K ct W f σ Q) := by
  obtain ⟨ι, e, M, w, p⟩ := h
  refine ⟨ι, e, M, w, ?_⟩
  cases z : ma e M with
  | bad => simp only [z, Out.bind_bad] at p; exact p
  | exc xc xd xM => simp only [z, Out.bind_exc] at p; exact p
  | ok a M1 =>
    simp only [z, Out.bind_ok] at p
    exact fun ι1 b H1 x r q => ⟨ι1, e, M1, a, w.ext x r, q, p.ext x⟩
end S
namespace S
open PySem PySem.Spec PyProof.Rows L2
section
variable {X : Cx} {ct : Nat → Addr} {W : XWish} {a b c : Expr} {ma mb mc : ME} {pos : Pos}
@[irreducible] def mVar (i : Nat) : ME := fun e M => match e[i]? with
  | some (some d) => .ok d M
  | _ => .bad
theorem mVar_eq {i : Nat} {e : Sl} {M : Mem} {d : D} (h : e[i]? = some (some d)) : mVar i e M = .ok d M := by unfold mVar; rw [h]
def mC (d : D) : ME := fun _ M => .ok d M
theorem se_of {e : Expr} {t : TE} {m : ME} (h : PE X e t) (hi : ∀ σ H Q, tG (relD X.K ct) X.K ct W m σ H Q → t σ H Q) : SE X ct W e m := PE.imp h hi
theorem se_var (i : Nat) {x : Str} {pos : Pos} (hN : X.N[i]? = some x := by rfl) (hv : Vis X.env.scope x := by first | exact Or.inl rfl | exact Or.inr (Or.inl rfl) | exact Or.inr (Or.inr rfl)) (hd : (x == ("__debug__" : Str)) = false := by decide)
    (hcd : (x == ("__classdict__" : Str)) = false := by decide) : SE X ct W (.Name x pos) (mVar i) := se_of (pe_var hN hv hd hcd) fun σ H Q ⟨ι, e, M, w, p⟩ => by
  unfold mVar at p
  cases z : e[i]? with
  | none => rw [z] at p; exact p.elim
  | some o =>
    cases o with
    | none => rw [z] at p; exact p.elim
    | some d =>
      rw [z] at p
      obtain ⟨v, hv, dv⟩ := w.env i d z
      exact ⟨v, hv, p ι v H .refl w.rl dv⟩
theorem tC_of {d : D} {v : V} {σ : St} {H : Hp} {Q : VK} (dv : ∀ ι n, DV X.K ct ι n H d v) (h : tG (relD X.K ct) X.K ct W (mC d) σ H Q) : tC v σ H Q := by
  obtain ⟨ι, e, M, w, p⟩ := h
  exact p ι v H .refl w.rl (dv _ _)
theorem se_int {i j pos} : SE X ct W (.Constant (.int i) j pos) (mC (.int i)) := se_of pe_int fun _ _ _ h => tC_of (fun _ _ => .int i) h
theorem se_bl {b j pos} : SE X ct W (.Constant (.bool b) j pos) (mC (.bl b)) := se_of pe_bl fun _ _ _ h => tC_of (fun _ _ => .bl b) h
theorem se_str {x j pos} : SE X ct W (.Constant (.str x) j pos) (mC (.str x)) := se_of pe_str fun _ _ _ h => tC_of (fun _ _ => .str x) h
abbrev Op2 := D → D → Mem → Out D
def mBin (op : Op2) (ma mb : ME) : ME := fun e M => (ma e M).bind fun d M1 => (mb e M1).bind fun d' M2 => op d d' M2
def OpS (K : PySem.W.Frag) (ct : Nat → Addr) (op : Op2) (r : R2) : Prop :=
  ∀ {w : XW} ι M H d d' v v' Q, Rl K ct ι M H → DV K ct ι M.length H d v → DV K ct ι M.length H d' v' → PostG (relD K ct) K ct w ι M.length H (op d d' M) Q → r v v' H Q
def BinS (X : Cx) (ct : Nat → Addr) (f : Value → Value → Sem Value) (op : Op2) : Prop := ∃ r, OpR X f r ∧ OpS X.K ct op r
theorem tOp_of {r : R2} {op : Op2} (hs : OpS X.K ct op r) {σ : St} {H : Hp} {Q : VK} (h : tG (relD X.K ct) X.K ct W (mBin op ma mb) σ H Q) :
    tOp r (tG (relD X.K ct) X.K ct W ma) (tG (relD X.K ct) X.K ct W mb) σ H Q := by
  obtain ⟨ι, e, M, w, p⟩ := tG_bind (relα := relD X.K ct) h
  refine ⟨ι, e, M, w, p.mono fun x H1 ⟨ι1, e1, M1, d1, w1, q1, p1⟩ => ?_⟩
  refine ⟨ι1, e1, M1, w1, ?_⟩
  cases z : mb e1 M1 with
  | bad => simp only [z, Out.bind_bad] at p1; exact p1
  | exc xc xd xM => simp only [z, Out.bind_exc] at p1; exact p1
  | ok d2 M2 =>
    simp only [z, Out.bind_ok] at p1
    exact fun ι2 y H2 x2 r2 q2 => hs ι2 M2 H2 d1 d2 x y Q r2 (q1.mono x2) q2 (p1.ext x2)
theorem se_bin {op : Operator} {sop : Op2} (h : BinS X ct (binaryOp op) sop) (ha : SE X ct W a ma) (hb : SE X ct W b mb) : SE X ct W (.BinOp a op b pos) (mBin sop ma mb) := by
  obtain ⟨r, ho, hs⟩ := h
  exact se_of (pe_op ho ha hb) fun σ H Q q => tOp_of hs q
theorem se_cmp {op : CmpOp} {sop : Op2} (h : BinS X ct (compareOp op) sop) (ha : SE X ct W a ma) (hb : SE X ct W b mb) (hm : behindInMarks op b = false) : SE X ct W (.Compare a [op] [b] pos) (mBin sop ma mb) := by
  obtain ⟨r, ho, hs⟩ := h
  exact se_of (pe_cmpR ho ha hb hm) fun σ H Q q => tOp_of hs q
def asB (d : D) (M : Mem) : Out Bool := match d with
  | .bl b => .ok b M
  | _ => .bad
def mTest (m : ME) : MT := fun e M => (m e M).bind asB
theorem tTest_of {t : TE} {m : ME} {σ : St} {H : Hp} {Q : Bool → Hp → Prop} (hi : ∀ Q, tG (relD X.K ct) X.K ct W m σ H Q → t σ H Q) (h : tG relB X.K ct W (mTest m) σ H Q) : tTest t σ H Q := by
  refine hi _ ?_
  obtain ⟨ι, e, M, w, p⟩ := tG_bind (relα := relD X.K ct) (f := fun d _ M => asB d M) h
  refine ⟨ι, e, M, w, p.mono fun x H1 ⟨ι1, e1, M1, d1, w1, q1, p1⟩ => ?_⟩
  cases q1 with
  | bl b => exact ⟨b, rfl, p1 ι1 b H1 .refl w1.rl rfl⟩
  | _ => exact False.elim p1
theorem st_cmp {op : CmpOp} {sop : Op2} (h : BinS X ct (compareOp op) sop) (ha : SE X ct W a ma) (hb : SE X ct W b mb) (hm : behindInMarks op b = false) : STt X ct W (.Compare a [op] [b] pos) (mTest (mBin sop ma mb)) := by
  obtain ⟨r, ho, hs⟩ := h
  exact PT.imp (pt_cmpR ho ha hb hm) fun σ H Q q => tTest_of (fun Q q => tOp_of hs q) q
def mChain (o1 o2 : Op2) (ma mb mc : ME) : ME := fun e M => (ma e M).bind fun d1 M1 => (mb e M1).bind fun d2 M2 => (o1 d1 d2 M2).bind fun r M3 => (asB r M3).bind fun k M4 =>
  if k = true then (mc e M4).bind fun d3 M5 => o2 d2 d3 M5 else .ok (.bl false) M4
def mUn (op : D → Mem → Out D) (ma : ME) : ME := fun e M => (ma e M).bind op
variable {t u : MT} {rest : List Expr}
def mAnd (t u : MT) : MT := fun e M => (t e M).bind fun k M1 => if k = true then u e M1 else .ok false M1
def mOr (t u : MT) : MT := fun e M => (t e M).bind fun k M1 => if k = true then .ok true M1 else u e M1
def mNot (t : MT) : MT := fun e M => (t e M).bind fun k M1 => .ok (!k) M1
theorem sw_or1 (ha : STt X ct W a t) : SW X ct W (.BoolOp .Or [a] pos) t := pw_or1 ha
theorem sw_or (ha : STt X ct W a t) (hb : SW X ct W (.BoolOp .Or (b :: rest) pos) u) : SW X ct W (.BoolOp .Or (a :: b :: rest) pos) (mOr t u) := PW.imp (pw_or ha hb) fun σ H Q q => by
  obtain ⟨ι, e, M, w, p⟩ := tG_bind (relα := relB) (f := fun k e M1 => if k = true then .ok true M1 else u e M1) q
  refine ⟨ι, e, M, w, p.mono fun k H1 ⟨ι1, e1, M1, d1, w1, q1, p1⟩ => ?_⟩
  have hEq : d1 = k := q1; subst hEq
  cases d1 with
  | false => exact ⟨ι1, e1, M1, w1, p1⟩
  | true => exact p1 ι1 true H1 .refl w1.rl rfl
def mAndV (ma mb : ME) : ME := fun e M => (ma e M).bind fun d M1 => (asB d M1).bind fun k M2 => if k = true then mb e M2 else .ok (.bl false) M2
def mOrV (ma mb : ME) : ME := fun e M => (ma e M).bind fun d M1 => (asB d M1).bind fun k M2 => if k = true then .ok (.bl true) M2 else mb e M2
def mNotV (ma : ME) : ME := fun e M => (ma e M).bind fun d M1 => (asB d M1).bind fun k M2 => .ok (.bl (!k)) M2
theorem se_one {op} {m : ME} (h : SE X ct W a m) : SE X ct W (.BoolOp op [a] pos) m := pe_one h
theorem se_and (ha : SE X ct W a ma) (hb : SE X ct W (.BoolOp .And (b :: rest) pos) mb) : SE X ct W (.BoolOp .And (a :: b :: rest) pos) (mAndV ma mb) := se_of (pe_and ha hb) fun σ H Q q => by
  obtain ⟨ι, e, M, w, p⟩ := tG_bind (relα := relD X.K ct) (f := fun d e M1 => (asB d M1).bind fun k M2 => if k = true then mb e M2 else .ok (.bl false) M2) q
  refine ⟨ι, e, M, w, p.mono fun x H1 ⟨ι1, e1, M1, d1, w1, q1, p1⟩ => ?_⟩
  cases q1 with
  | bl k =>
    refine ⟨k, rfl, ?_⟩
    simp only [asB, Out.bind_ok] at p1
    cases k with
    | true => exact ⟨ι1, e1, M1, w1, p1⟩
    | false => exact p1 ι1 _ H1 .refl w1.rl (.bl false)
  | _ => exact False.elim p1
def mIf (t : MT) (ma mb : ME) : ME := fun e M => (t e M).bind fun k M1 => if k = true then ma e M1 else mb e M1
variable {es : List Expr} {ms : MA}
def mNil : MA := fun _ M => .ok [] M
def mCons (m : ME) (ms : MA) : MA := fun e M => (m e M).bind fun d M1 => (ms e M1).bind fun ds M2 => .ok (d :: ds) M2
theorem sa_nil : SA X ct W [] mNil := PA.imp pa_nil fun σ H Q ⟨ι, e, M, w, p⟩ => p ι [] H .refl w.rl .nil
theorem sa_cons (ha : SE X ct W a ma) (hr : SA X ct W es ms) (hs : starEach (a :: es) X.env = (false, eval a X.env) :: starEach es X.env := by rfl) : SA X ct W (a :: es) (mCons ma ms) := PA.imp (pa_cons ha hr hs) fun σ H Q q => by
  obtain ⟨ι, e, M, w, p⟩ := tG_bind (relα := relD X.K ct) (f := fun d e M1 => (ms e M1).bind fun ds M2 => .ok (d :: ds) M2) q
  refine ⟨ι, e, M, w, p.mono fun x H1 ⟨ι1, e1, M1, d1, w1, q1, p1⟩ => ⟨ι1, e1, M1, w1, ?_⟩⟩
  cases z : ms e1 M1 with
  | bad => simp only [z, Out.bind_bad] at p1; exact p1
  | exc xc xd xM => simp only [z, Out.bind_exc] at p1; exact p1
  | ok ds M2 =>
    simp only [z, Out.bind_ok] at p1
    exact fun ι2 xs H2 x2 r2 q2 => p1 ι2 (x :: xs) H2 x2 r2 (.cons (q1.mono x2) q2)
def mTup (ms : MA) : ME := fun e M => (ms e M).bind fun ds M1 => if ds.length ≤ sizeLine then .ok (.tup ds) M1 else .bad
def mLst (ms : MA) : ME := fun e M => (ms e M).bind fun ds M1 => if ds.length ≤ sizeLine then .ok (.ref M1.length) (M1 ++ [.lst ds]) else .bad
theorem post_tup {w : XW} {K : PySem.W.Frag} {ι : Nat → Addr} {M : Mem} {H : Hp} {ds : List D} {xs : List V} {Q : VK} {p : Addr} (R : Rl K ct ι M H) (h : DVs K ct ι M.length H ds xs) (hp : H p = none) (q : PostG (relD K ct) K ct w ι M.length H (.ok (.tup ds) M) Q) : Q (.ref p) (upd H p (.tup xs)) :=
  q ι (.ref p) _ (Ext.fresh hp) (R.fresh hp) (.tup upd_same (h.mono (Ext.fresh hp)))
theorem post_lst {w : XW} {K : PySem.W.Frag} {ι : Nat → Addr} {M : Mem} {H : Hp} {ds : List D} {xs : List V} {Q : VK} {p : Addr} (R : Rl K ct ι M H) (h : DVs K ct ι M.length H ds xs) (hp : H p = none) (q : PostG (relD K ct) K ct w ι M.length H (.ok (.ref M.length) (M ++ [.lst ds])) Q) : Q (.ref p) (upd H p (.lst xs)) := by
  have el : (M ++ [MO.lst ds]).length = M.length + 1 := by simp
  have x : Ext K ι M.length H (inew ι M.length p) (M.length + 1) (upd H p (.lst xs)) := Ext.new hp
  have e : (inew ι M.length p) M.length = p := by unfold inew; rw [if_pos rfl]
  have dv : DV K ct (inew ι M.length p) (M ++ [MO.lst ds]).length (upd H p (.lst xs)) (.ref M.length) (.ref p) := by
    have := DV.ref (K := K) (ct := ct) (ι := inew ι M.length p) (n := (M ++ [MO.lst ds]).length) (H := upd H p (.lst xs)) (i := M.length) (by rw [el]; omega)
    rw [e] at this
    exact this
  exact q (inew ι M.length p) (.ref p) _ (by rw [el]; exact x) (R.new hp ⟨xs, upd_same, h.mono x⟩) dv
theorem se_tup {x1} (h : SA X ct W es ms) : SE X ct W (.Tuple es x1 pos) (mTup ms) := se_of (pe_tup h) fun σ H Q q => by
  obtain ⟨ι, e, M, w, p⟩ := tG_bind (relα := relA X.K ct) (f := fun ds _ M1 => if ds.length ≤ sizeLine then .ok (D.tup ds) M1 else .bad) q
  refine ⟨ι, e, M, w, p.mono fun xs H1 ⟨ι1, e1, M1, ds, w1, q1, p1⟩ => ?_⟩
  by_cases z : ds.length ≤ sizeLine
  · simp only [z, if_true] at p1
    exact ⟨by rw [q1.length]; exact z, fun pp hp => post_tup w1.rl q1 hp p1⟩
  · simp only [z, if_false] at p1
    exact p1.elim
theorem se_lst (h : SA X ct W es ms) : SE X ct W (.List es pos) (mLst ms) := se_of (pe_lst h) fun σ H Q q => by
  obtain ⟨ι, e, M, w, p⟩ := tG_bind (relα := relA X.K ct) (f := fun ds _ M1 => if ds.length ≤ sizeLine then .ok (D.ref M1.length) (M1 ++ [.lst ds]) else .bad) q
  refine ⟨ι, e, M, w, p.mono fun xs H1 ⟨ι1, e1, M1, ds, w1, q1, p1⟩ => ?_⟩
  by_cases z : ds.length ≤ sizeLine
  · simp only [z, if_true] at p1
    exact ⟨by rw [q1.length]; exact z, fun pp hp => post_lst w1.rl q1 hp p1⟩
  · simp only [z, if_false] at p1
    exact p1.elim
def getF (cs : List Nat) (f : Str) (d : D) (M : Mem) : Out D := match d with
  | .ref n => match M[n]? with
    | some (.ins c fs) => if c ∈ cs then (match fs.lookup f with
      | some v => .ok v M
      | none => .bad) else .bad
    | _ => .bad
  | _ => .bad
def mFld (cs : List Nat) (m : ME) (f : Str) : ME := fun e M => (m e M).bind (getF cs f)
def FldAll (K : PySem.W.Frag) (ct : Nat → Addr) (f : Str) : List Nat → Prop
  | [] => True
  | c :: cs => (Cls K (ct c) ∧ NoAttr K (ct c) f) ∧ FldAll K ct f cs
theorem FldAll.get {K : PySem.W.Frag} {ct : Nat → Addr} {f : Str} : ∀ {cs : List Nat} {c : Nat}, FldAll K ct f cs → c ∈ cs → Cls K (ct c) ∧ NoAttr K (ct c) f
  | [], _, _, h => by simp at h
  | c :: cs, d, ⟨a, r⟩, h => by
    rcases List.mem_cons.mp h with e | e
    · subst e; exact a
    · exact r.get e
theorem dv_ref {K : PySem.W.Frag} {ι : Nat → Addr} {n : Nat} {H : Hp} {i : Nat} {v : V} (h : DV K ct ι n H (.ref i) v) : i < n ∧ v = .ref (ι i) := by cases h with | ref h => exact ⟨h, rfl⟩
theorem se_fld {cs : List Nat} {f : Str} (hc : FldAll X.K ct f cs) (he : SE X ct W a ma) (hb : attributeBase a f X.env (eval a X.env) = eval a X.env := by rfl) : SE X ct W (.Attribute a f pos) (mFld cs ma f) := se_of (pe_fld he hb) fun σ H Q q => by
  obtain ⟨ι, e, M, w, p⟩ := tG_bind (relα := relD X.K ct) (f := fun d _ M1 => getF cs f d M1) q
  refine ⟨ι, e, M, w, p.mono fun x H1 ⟨ι1, e1, M1, d1, w1, q1, p1⟩ => ?_⟩
  cases d1 with
  | ref n =>
    obtain ⟨hn, rfl⟩ := dv_ref q1
    simp only [getF] at p1
    cases z : M1[n]? with
    | none => simp only [z] at p1; exact p1.elim
    | some o =>
      cases o with
      | ins c fs =>
        simp only [z] at p1
        by_cases hcs : c ∈ cs
        · simp only [hcs, if_true] at p1
          cases z2 : fs.lookup f with
          | none => simp only [z2] at p1; exact p1.elim
          | some d =>
            simp only [z2] at p1
            obtain ⟨dx, vs, hH, fv⟩ := w1.rl.obj n _ z
            obtain ⟨v, hv, dv⟩ := fv.look z2
            exact ⟨_, _, dx, vs, v, rfl, hH, (hc.get hcs).1, (hc.get hcs).2, hv, p1 ι1 v H1 .refl w1.rl dv⟩
        · simp only [hcs, if_false] at p1
          exact p1.elim
      | _ => simp only [z] at p1; exact p1.elim
  | _ => exact p1.elim
abbrev Fn := List D → Mem → Out D
def wE (E : XK) : XW := fun C dx H => E (.ref C) (some dx) H
theorem PostG.wish {α β : Type} {rel : (Nat → Addr) → Mem → Hp → α → β → Prop} {K : PySem.W.Frag} {ct ι : Nat → Addr} {w w' : XW} {n : Nat} {H : Hp} {o : Out α} {Q : β → Hp → Prop} (h : PostG rel K ct w ι n H o Q) (x : ∀ C dx H, w C dx H → w' C dx H) : PostG rel K ct w' ι n H o Q := by
  cases o with
  | ok a M => exact h
  | exc c d M => exact fun ι2 dx v H2 x2 r q1 q2 => x _ _ _ (h ι2 dx v H2 x2 r q1 q2)
  | bad => exact h
theorem PostG.toE {α β : Type} {rel : (Nat → Addr) → Mem → Hp → α → β → Prop} {K : PySem.W.Frag} {ct ι : Nat → Addr} {W : XWish} {σ : St} {n : Nat} {H : Hp} {o : Out α} {Q : β → Hp → Prop} (h : PostG rel K ct (wAt W σ) ι n H o Q) : PostG rel K ct (wE (EW W σ)) ι n H o Q :=
  h.wish fun C dx _ q => ⟨C, dx, rfl, rfl, q⟩
def spS (K : PySem.W.Frag) (ct : Nat → Addr) (fn : Fn) (ar : Nat) : Sp := fun vs H Q E => ∃ ι ds M, ds.length = ar ∧ Rl K ct ι M H ∧ DVs K ct ι M.length H ds vs ∧ PostG (relD K ct) K ct (wE E) ι M.length H (fn ds M) Q
inductive Cst : D → V → Value → Prop
  | bl (b : Bool) : Cst (.bl b) (.bl b) (.bool b)
  | non : Cst .non .non .none
inductive Csts : List D → List V → List Value → Prop
  | nil : Csts [] [] []
  | cons {d : D} {v : V} {u : Value} {ds : List D} {vs : List V} {us : List Value} : Cst d v u → Csts ds vs us → Csts (d :: ds) (v :: vs) (u :: us)
theorem Cst.dv {K : PySem.W.Frag} {ι : Nat → Addr} {n : Nat} {H : Hp} {d : D} {v : V} {u : Value} (h : Cst d v u) : DV K ct ι n H d v := by
  cases h with
  | bl b => exact .bl b
  | non => exact .non
theorem Cst.val {d : D} {v : V} {u : Value} (h : Cst d v u) : RelV v u := by
  cases h with
  | bl b => exact rfl
  | non => exact rfl
theorem Csts.dv {K : PySem.W.Frag} {ι : Nat → Addr} {n : Nat} {H : Hp} {ds : List D} {vs : List V} {us : List Value} (h : Csts ds vs us) : DVs K ct ι n H ds vs := by
  induction h with
  | nil => exact .nil
  | cons c _ ih => exact .cons c.dv ih
theorem Csts.vals {ds : List D} {vs : List V} {us : List Value} (h : Csts ds vs us) : Vals vs us := by
  induction h with
  | nil => exact .nil
  | cons c _ ih => exact .cons c.val ih
def mCall (fn : Fn) (ar : Nat) (dv : List D) (ms : MA) : ME := fun e M => (ms e M).bind fun ds M1 => if (ds ++ dv).length = ar then fn (ds ++ dv) M1 else .bad
variable {k : Nat} {f : Addr} {fd : FuncData} {ps : List Str} {fn : Fn} {dv : List D} {dvs : List V} {dus : List Value} {x : Str} {p : Pos}
theorem tCall_of {σ : St} {H : Hp} {Q : VK} (hd : Csts dv dvs dus) (h : tG (relD X.K ct) X.K ct W (mCall fn ps.length dv ms) σ H Q) : tCallX (spS X.K ct fn ps.length) dvs W (tG (relA X.K ct) X.K ct W ms) σ H Q := by
  obtain ⟨ι, e, M, w, p⟩ := tG_bind (relα := relA X.K ct) (f := fun ds _ M1 => if (ds ++ dv).length = ps.length then fn (ds ++ dv) M1 else .bad) h
  refine ⟨ι, e, M, w, p.mono fun vs H1 ⟨ι1, e1, M1, ds, w1, q1, p1⟩ => ?_⟩
  by_cases z : (ds ++ dv).length = ps.length
  · simp only [z, if_true] at p1
    exact ⟨ι1, ds ++ dv, M1, z, w1.rl, q1.append hd.dv, p1.toE⟩
  · simp only [z, if_false] at p1
    exact p1.elim
theorem se_call {ar : Nat} (F : FnOk X.prog X.w X.K X.mg X.base (CXx X.prog X.w) k f fd ps (spS X.K ct fn ar)) (hx : Tk X W) (hr : Room k X.A) (hg : Gl X x) (hm : X.mg x = some (.ref f)) (hk : PySem.W.keepIn X.K (.ref f) = true) (hb : Binds X.K fd ps dus) (hd : Csts dv dvs dus)
    (ha : SA X ct W (a :: es) ms) (hdb : (x == ("__debug__" : Str)) = false := by decide) (he : starEach (a :: es) X.env = (false, eval a X.env) :: starEach es X.env := by rfl) (hpl : (backTo pos (starEach es X.env)).any (·.1) = false := by rfl) (har : ps.length = ar := by rfl) : SE X ct W (.Call (.Name x p) (a :: es) [] pos) (mCall fn ar dv ms) := by
  subst har
  exact se_of (pe_callX F hr hg hm hk hb hd.vals hx ha hdb he hpl) fun σ H Q q => tCall_of hd q
def isIns (k : Nat) (m : Str) (d : D) (M : Mem) : Bool := match d with
  | .ref n => match M[n]? with
    | some (.ins c fs) => c == k && (fs.lookup m).isNone
    | _ => false
  | _ => false
def mMeth (k : Nat) (m : Str) (fn : Fn) (ar : Nat) (dv : List D) (mo : ME) (ms : MA) : ME := fun e M => (mo e M).bind fun d M1 => if isIns k m d M1 = true then (ms e M1).bind fun ds M2 => if (d :: (ds ++ dv)).length = ar then fn (d :: (ds ++ dv)) M2 else .bad else .bad
theorem isIns_of {K : PySem.W.Frag} {ι : Nat → Addr} {M : Mem} {H : Hp} {k : Nat} {m : Str} {d : D} {v : V} (R : Rl K ct ι M H) (h : isIns k m d M = true) (q : DV K ct ι M.length H d v) : ∃ a dx fs, v = .ref a ∧ H a = some (.ins (ct k) dx fs) ∧ fs.lookup m = none := by
  cases d with
  | ref n =>
    obtain ⟨hn, rfl⟩ := dv_ref q
    unfold isIns at h
    cases z : M[n]? with
    | none => simp only [z] at h; cases h
    | some o =>
      cases o with
      | ins c fs =>
        simp only [z, Bool.and_eq_true, beq_iff_eq, Option.isNone_iff_eq_none] at h
        obtain ⟨rfl, hl⟩ := h
        obtain ⟨dx, vs, hH, fv⟩ := R.obj n _ z
        exact ⟨_, dx, vs, rfl, hH, fv.lookN hl⟩
      | _ => simp only [z] at h; cases h
  | _ => exact absurd h Bool.false_ne_true
theorem tMeth_of {kc : Nat} {m : Str} {mo : ME} {σ : St} {H : Hp} {Q : VK} (hd : Csts dv dvs dus) (h : tG (relD X.K ct) X.K ct W (mMeth kc m fn ps.length dv mo ms) σ H Q) :
    tMethX (ct kc) m (spS X.K ct fn ps.length) dvs W (tG (relD X.K ct) X.K ct W mo) (tG (relA X.K ct) X.K ct W ms) σ H Q := by
  obtain ⟨ι, e, M, w, p⟩ := tG_bind (relα := relD X.K ct) (f := fun d e M1 => if isIns kc m d M1 = true then (ms e M1).bind fun ds M2 => if (d :: (ds ++ dv)).length = ps.length then fn (d :: (ds ++ dv)) M2 else .bad else .bad) h
  refine ⟨ι, e, M, w, p.mono fun v H1 ⟨ι1, e1, M1, d, w1, q1, p1⟩ => ?_⟩
  cases z : isIns kc m d M1 with
  | false => simp only [z, Bool.false_eq_true, if_false] at p1; exact p1.elim
  | true =>
    simp only [z, if_true] at p1
    obtain ⟨a, dx, fs, rfl, hH, hl⟩ := isIns_of w1.rl z q1
    refine ⟨a, dx, fs, rfl, hH, hl, ι1, e1, M1, w1, ?_⟩
    cases z2 : ms e1 M1 with
    | bad => simp only [z2, Out.bind_bad] at p1; exact p1
    | exc xc xd xM => simp only [z2, Out.bind_exc] at p1; exact p1
    | ok ds M2 =>
      simp only [z2, Out.bind_ok] at p1
      intro ι2 vs H2 x2 r2 q2
      by_cases z3 : (d :: (ds ++ dv)).length = ps.length
      · rw [if_pos z3] at p1
        exact ⟨ι2, _, M2, z3, r2, .cons (q1.mono x2) (q2.append hd.dv), (p1.ext x2).toE⟩
      · rw [if_neg z3] at p1
        exact p1.elim
variable {o : Expr} {mo : ME} {kc : Nat} {m : Str} {apos : Pos}
theorem se_meth {ar : Nat} {pl : Sem Bool} (he : SE X ct W o mo) (c : Cls X.K (ct kc)) (hm : Meth X.K (ct kc) m f) (F : FnOk X.prog X.w X.K X.mg X.base (CXx X.prog X.w) k f fd ps (spS X.K ct fn ar)) (hx : Tk X W) (hr : Room k X.A) (hb : Binds X.K fd ps dus) (hd : Csts dv dvs dus) (ha : SA X ct W (a :: es) ms)
    (hst : starEach (a :: es) X.env = (false, eval a X.env) :: starEach es X.env := by rfl) (hpl : (backTo pos (starEach es X.env)).any (·.1) = false := by rfl)
    (ht : eval (.Call (.Attribute o m apos) (a :: es) [] pos) X.env = (do
      let ov ← eval o X.env
      standAt apos.atName
      let (f, first) ← holding [ov] (getMethod ov m pl)
      callWith pos f first (backTo pos (starEach (a :: es) X.env)) (backToKw pos (keywordEach [] X.env))) := by rfl) (har : ps.length = ar := by rfl) : SE X ct W (.Call (.Attribute o m apos) (a :: es) [] pos) (mMeth kc m fn ar dv mo ms) := by
  subst har
  exact se_of (pe_methX he c hm F hr hb hd.vals hx ha hst hpl ht) fun σ H Q q => tMeth_of hd q
theorem se_meth0 {ar : Nat} {pl : Sem Bool} (he : SE X ct W o mo) (c : Cls X.K (ct kc)) (hm : Meth X.K (ct kc) m f) (F : FnOk X.prog X.w X.K X.mg X.base (CXx X.prog X.w) k f fd ps (spS X.K ct fn ar)) (hx : Tk X W) (hr : Room k X.A) (hb : Binds X.K fd ps dus) (hd : Csts dv dvs dus)
    (ht : eval (.Call (.Attribute o m apos) [] [] pos) X.env = (do
      let ov ← eval o X.env
      standAt apos.atName
      let (f, first) ← holding [ov] (getMethod ov m pl)
      callWith pos f first (backTo pos (starEach [] X.env)) (backToKw pos (keywordEach [] X.env))) := by rfl) (har : ps.length = ar := by rfl) : SE X ct W (.Call (.Attribute o m apos) [] [] pos) (mMeth kc m fn ar dv mo mNil) := by
  subst har
  exact se_of (pe_meth0X he c hm F hr hb hd.vals hx ht) fun σ H Q q => by
    obtain ⟨ι, e, M, w, p⟩ := tMeth_of hd q
    refine ⟨ι, e, M, w, p.mono fun v H1 ⟨a, dx, fs, e1, e2, e3, ι1, e4, M1, w1, p1⟩ => ⟨a, dx, fs, e1, e2, e3, p1 ι1 [] H1 .refl w1.rl .nil⟩⟩
def isNon (d : D) : Bool := match d with
  | .non => true
  | _ => false
def mMake (kc : Nat) (fn : Fn) (ar : Nat) (dv : List D) (ms : MA) : ME := fun e M => (ms e M).bind fun ds M1 => if (D.ref M1.length :: (ds ++ dv)).length = ar then (fn (.ref M1.length :: (ds ++ dv)) (M1 ++ [.ins kc []])).bind fun r M2 => if isNon r = true then .ok (.ref M1.length) M2 else .bad else .bad
theorem tMake_of {σ : St} {H : Hp} {Q : VK} (hd : Csts dv dvs dus) (h : tG (relD X.K ct) X.K ct W (mMake kc fn ps.length dv ms) σ H Q) : tMakeX (ct kc) (spS X.K ct fn ps.length) dvs W (tG (relA X.K ct) X.K ct W ms) σ H Q := by
  obtain ⟨ι, e, M, w, p⟩ := tG_bind (relα := relA X.K ct) (f := fun ds _ M1 => if (D.ref M1.length :: (ds ++ dv)).length = ps.length then (fn (D.ref M1.length :: (ds ++ dv)) (M1 ++ [.ins kc []])).bind fun r M2 => if isNon r = true then .ok (D.ref M1.length) M2 else .bad else .bad) h
  refine ⟨ι, e, M, w, p.mono fun vs H1 ⟨ι1, e1, M1, ds, w1, q1, p1⟩ => ?_⟩
  intro a dx ha hdx ne
  dsimp only at p1
  by_cases z : (D.ref M1.length :: (ds ++ dv)).length = ps.length
  · rw [if_pos z] at p1
    have ha' : upd H1 dx (.own a) a = none := by rw [upd_ne (Ne.symm ne)]; exact ha
    have el : (M1 ++ [MO.ins kc []]).length = M1.length + 1 := by simp
    have x1 : Ext X.K ι1 M1.length H1 ι1 M1.length (upd H1 dx (.own a)) := Ext.fresh hdx
    have r1 : Rl X.K ct ι1 M1 (upd H1 dx (.own a)) := w1.rl.fresh hdx
    have x2 : Ext X.K ι1 M1.length (upd H1 dx (.own a)) (inew ι1 M1.length a) (M1.length + 1) (upd (upd H1 dx (.own a)) a (.ins (ct kc) dx [])) := Ext.new ha'
    have r2 : Rl X.K ct (inew ι1 M1.length a) (M1 ++ [MO.ins kc []]) (upd (upd H1 dx (.own a)) a (.ins (ct kc) dx [])) := r1.new ha' ⟨dx, [], upd_same, .nil⟩
    have e0 : (inew ι1 M1.length a) M1.length = a := by unfold inew; rw [if_pos rfl]
    have dv0 : DV X.K ct (inew ι1 M1.length a) (M1 ++ [MO.ins kc []]).length (upd (upd H1 dx (.own a)) a (.ins (ct kc) dx [])) (.ref M1.length) (.ref a) := by
      have := DV.ref (K := X.K) (ct := ct) (ι := inew ι1 M1.length a) (n := (M1 ++ [MO.ins kc []]).length) (H := upd (upd H1 dx (.own a)) a (.ins (ct kc) dx [])) (i := M1.length) (by rw [el]; omega)
      rw [e0] at this
      exact this
    refine ⟨inew ι1 M1.length a, _, M1 ++ [.ins kc []], z, r2, .cons dv0 ?_, ?_⟩
    · rw [el]; exact (q1.append hd.dv).mono (x1.trans x2)
    · cases z2 : fn (.ref M1.length :: (ds ++ dv)) (M1 ++ [.ins kc []]) with
      | bad => rw [z2] at p1; exact p1
      | exc xc xd xM =>
        rw [z2] at p1
        simp only [Out.bind_exc] at p1
        have p2 := (p1.ext (x1.trans x2)).toE
        rw [el]
        exact fun ι3 dx3 v3 H3 x3 r3 q3 q4 => p2 ι3 dx3 v3 H3 x3 r3 q3 q4
      | ok r M2 =>
        rw [z2] at p1
        simp only [Out.bind_ok] at p1
        intro ι3 v3 H3 x3 r3 q3
        cases q3 with
        | non =>
          refine ⟨rfl, ?_⟩
          simp only [isNon, if_true] at p1
          refine p1 ι3 (.ref a) H3 ((x1.trans x2).trans (by rw [el] at x3; exact x3)) r3 (dv0.mono x3)
        | _ => exact False.elim p1
  · rw [if_neg z] at p1
    exact p1.elim
theorem se_make0 {ar : Nat} (Mk0 : Mk X.K (ct kc) f) (F : FnOk X.prog X.w X.K X.mg X.base (CXx X.prog X.w) k f fd ps (spS X.K ct fn ar)) (hx : Tk X W) (hr : Room (k + 1) X.A) (hg : Gl X x) (hm : X.mg x = some (.ref (ct kc))) (hb : Binds X.K fd ps dus) (hd : Csts dv dvs dus)
    (hdb : (x == ("__debug__" : Str)) = false := by decide) (har : ps.length = ar := by rfl) : SE X ct W (.Call (.Name x p) [] [] pos) (mMake kc fn ar dv mNil) := by
  subst har
  exact se_of (pe_make0X Mk0 F hr hg hm hb hd.vals hx hdb) fun σ H Q q => by
    obtain ⟨ι, e, M, w, p⟩ := tMake_of hd q
    exact p ι [] H .refl w.rl .nil
abbrev OpN := List D → Mem → Out D
def mCB (op : OpN) (ms : MA) : ME := fun e M => (ms e M).bind op
def CallS (X : Cx) (ct : Nat → Addr) (f : Value) (op : OpN) : Prop := ∃ r, CallR X f r ∧ ∀ {w : XW} ι M H ds vs Q, Rl X.K ct ι M H → DVs X.K ct ι M.length H ds vs → PostG (relD X.K ct) X.K ct w ι M.length H (op ds M) Q → r vs H Q
variable {id T : String} {op : OpN}
theorem tCB_of {r : List V → Hp → VK → Prop} {σ : St} {H : Hp} {Q : VK} (hs : ∀ {w : XW} ι M H ds vs Q, Rl X.K ct ι M H → DVs X.K ct ι M.length H ds vs → PostG (relD X.K ct) X.K ct w ι M.length H (op ds M) Q → r vs H Q)
    (h : tG (relD X.K ct) X.K ct W (mCB op ms) σ H Q) : tCB r (tG (relA X.K ct) X.K ct W ms) σ H Q := by
  obtain ⟨ι, e, M, w, p⟩ := tG_bind (relα := relA X.K ct) (f := fun ds _ M1 => op ds M1) h
  exact ⟨ι, e, M, w, p.mono fun vs H1 ⟨ι1, e1, M1, ds, w1, q1, p1⟩ => hs ι1 M1 H1 ds vs Q w1.rl q1 p1⟩
theorem se_callB (h : CallS X ct (.builtin id) op) (hg : Gl X x) (hm : X.mg x = none) (hv : bootBuiltins x = some (.builtin id)) (ha : SA X ct W (a :: es) ms) (hn : x ≠ "__name__" := by decide) (hdb : (x == ("__debug__" : Str)) = false := by decide)
    (he : starEach (a :: es) X.env = (false, eval a X.env) :: starEach es X.env := by rfl) (hpl : (backTo pos (starEach es X.env)).any (·.1) = false := by rfl) : SE X ct W (.Call (.Name x p) (a :: es) [] pos) (mCB op ms) := by
  obtain ⟨r, hr, hs⟩ := h
  exact se_of (pe_callB hr hg hm hv ha hn hdb he hpl) fun σ H Q q => tCB_of hs q
theorem se_callT (h : CallS X ct (.type T) op) (hg : Gl X x) (hm : X.mg x = none) (hv : bootBuiltins x = some (.type T)) (ha : SA X ct W (a :: es) ms) (hn : x ≠ "__name__" := by decide) (hdb : (x == ("__debug__" : Str)) = false := by decide)
    (he : starEach (a :: es) X.env = (false, eval a X.env) :: starEach es X.env := by rfl) (hpl : (backTo pos (starEach es X.env)).any (·.1) = false := by rfl) : SE X ct W (.Call (.Name x p) (a :: es) [] pos) (mCB op ms) := by
  obtain ⟨r, hr, hs⟩ := h
  exact se_of (pe_callTy hr hg hm hv ha hn hdb he hpl) fun σ H Q q => tCB_of hs q
end
end S
namespace S
open PySem PySem.Spec PyProof.Rows L2
section
variable {X : Cx} {ct : Nat → Addr} {W : XWish}
theorem dv_int {K : PySem.W.Frag} {ι : Nat → Addr} {n : Nat} {H : Hp} {i : Int} {v : V} (h : DV K ct ι n H (.int i) v) : v = .int i := by cases h; rfl
theorem dv_str {K : PySem.W.Frag} {ι : Nat → Addr} {n : Nat} {H : Hp} {i : Str} {v : V} (h : DV K ct ι n H (.str i) v) : v = .str i := by cases h; rfl
theorem dv_tup {K : PySem.W.Frag} {ι : Nat → Addr} {n : Nat} {H : Hp} {ds : List D} {v : V} (h : DV K ct ι n H (.tup ds) v) : ∃ a xs, v = .ref a ∧ SqT K H a xs ∧ DVs K ct ι n H ds xs := by cases h with | tup a b => exact ⟨_, _, rfl, SqT.of a, b⟩
theorem dv_tupH {K : PySem.W.Frag} {ι : Nat → Addr} {n : Nat} {H : Hp} {ds : List D} {v : V} (h : DV K ct ι n H (.tup ds) v) : ∃ a xs, v = .ref a ∧ H a = some (.tup xs) ∧ DVs K ct ι n H ds xs := by cases h with | tup a b => exact ⟨_, _, rfl, a, b⟩
def lstOf (M : Mem) (n : Nat) : Option (List D) := match M[n]? with
  | some (.lst ds) => some ds
  | _ => none
theorem lstOf_lst {M : Mem} {n : Nat} {ds : List D} (h : M[n]? = some (.lst ds)) : lstOf M n = some ds := by unfold lstOf; rw [h]
theorem lstOf_iff {M : Mem} {n : Nat} {ds : List D} : lstOf M n = some ds ↔ M[n]? = some (.lst ds) := by
  refine ⟨fun h => ?_, lstOf_lst⟩
  unfold lstOf at h
  split at h
  · rename_i e; cases h; exact e
  · cases h
def seqL (M : Mem) (d : D) : Option (List D) := match d with
  | .ref n => lstOf M n
  | .cl ds => some ds
  | _ => none
theorem Rl.seq {K : PySem.W.Frag} {ι : Nat → Addr} {M : Mem} {H : Hp} (R : Rl K ct ι M H) {d : D} {v : V} {ds : List D} (h : seqL M d = some ds) (q : DV K ct ι M.length H d v) : ∃ a xs, v = .ref a ∧ SqL K H a xs ∧ DVs K ct ι M.length H ds xs := by
  cases q with
  | @ref i hi => obtain ⟨vs, q, r⟩ := R.obj i _ (lstOf_iff.mp h); exact ⟨_, vs, rfl, SqL.of q, r⟩
  | cl h1 h2 => cases h; exact ⟨_, _, rfl, h1.sq, h2⟩
  | _ => cases h
def iop (C : Int → Int → Bool) (g : Int → Int → D) : Op2 := fun d e M => match d, e with
  | .int i, .int j => if C i j = true then .ok (g i j) M else .bad
  | _, _ => .bad
theorem opS_int {C : Int → Int → Bool} {P : Int → Int → Prop} {g : Int → Int → D} {gv : Int → Int → V} (hP : ∀ i j, C i j = true → P i j) (hg : ∀ (K : PySem.W.Frag) ι n H i j, DV K ct ι n H (g i j) (gv i j)) : OpS X.K ct (iop C g) (rI P gv) := by
  intro w ι M H d d' v v' Q R h h' p
  cases d with
  | int i =>
    cases d' with
    | int j =>
      cases dv_int h
      cases dv_int h'
      simp only [iop] at p
      cases z : C i j with
      | false => simp only [z, Bool.false_eq_true, if_false] at p; exact p.elim
      | true =>
        simp only [z, if_true] at p
        exact ⟨i, j, rfl, rfl, hP i j z, p ι _ H .refl R (hg _ _ _ _ _ _)⟩
    | _ => exact p.elim
  | _ => cases d' <;> exact p.elim
def C1 : Int → Int → Bool := fun _ _ => true
theorem rI0_of {g : Int → Int → V} {x y : V} {H : Hp} {Q : VK} (h : rI (fun _ _ => True) g x y H Q) : rI0 g x y H Q := let ⟨i, j, a, b, _, q⟩ := h; ⟨i, j, a, b, q⟩
theorem OpS.imp {K : PySem.W.Frag} {op : Op2} {r r' : R2} (h : OpS K ct op r) (i : ∀ x y H Q, r x y H Q → r' x y H Q) : OpS K ct op r' := fun ι M H d d' v v' Q R a b p => i _ _ _ _ (h ι M H d d' v v' Q R a b p)
theorem bin_int0 {f : Value → Value → Sem Value} {g : Int → Int → D} {gv : Int → Int → V} (h : OpR X f (rI0 gv)) (hg : ∀ (K : PySem.W.Frag) ι n H i j, DV K ct ι n H (g i j) (gv i j)) : BinS X ct f (iop C1 g) :=
  ⟨_, h, OpS.imp (opS_int (P := fun _ _ => True) (fun _ _ _ => trivial) hg) fun _ _ _ _ q => rI0_of q⟩
theorem bin_int {f : Value → Value → Sem Value} {C : Int → Int → Bool} {P : Int → Int → Prop} {g : Int → Int → D} {gv : Int → Int → V} (h : OpR X f (rI P gv)) (hP : ∀ i j, C i j = true → P i j) (hg : ∀ (K : PySem.W.Frag) ι n H i j, DV K ct ι n H (g i j) (gv i j)) : BinS X ct f (iop C g) :=
  ⟨_, h, opS_int hP hg⟩
def orOp (a b : Op2) : Op2 := fun d e M => match a d e M with
  | .bad => b d e M
  | o => o
theorem OpS.or {K : PySem.W.Frag} {a b : Op2} {r r' : R2} (ha : OpS K ct a r) (hb : OpS K ct b r') : OpS K ct (orOp a b) (fun x y H Q => r x y H Q ∨ r' x y H Q) := by
  intro w ι M H d d' v v' Q R q q' p
  unfold orOp at p
  cases z : a d d' M with
  | ok x M1 => rw [z] at p; exact .inl (ha ι M H d d' v v' Q R q q' (by rw [z]; exact p))
  | exc xc xd xM => rw [z] at p; exact .inl (ha ι M H d d' v v' Q R q q' (by rw [z]; exact p))
  | bad => rw [z] at p; exact .inr (hb ι M H d d' v v' Q R q q' p)
theorem orOp_ok {a b : Op2} {d e x : D} {M M' : Mem} (h : a d e M = .ok x M') : orOp a b d e M = .ok x M' := by unfold orOp; rw [h]
theorem orOp_bad {a b : Op2} {d e : D} {M : Mem} (h : a d e M = .bad) : orOp a b d e M = b d e M := by unfold orOp; rw [h]
theorem BinS.or {f : Value → Value → Sem Value} {a b : Op2} (ha : BinS X ct f a) (hb : BinS X ct f b) : BinS X ct f (orOp a b) := by
  obtain ⟨r, h, hs⟩ := ha
  obtain ⟨r', h', hs'⟩ := hb
  refine ⟨_, h.or h', fun ι M H d d' v v' Q R q q' p => ?_⟩
  unfold orOp at p
  cases z : a d d' M with
  | ok x M1 => rw [z] at p; exact .inl (hs ι M H d d' v v' Q R q q' (by rw [z]; exact p))
  | exc xc xd xM => rw [z] at p; exact .inl (hs ι M H d d' v v' Q R q q' (by rw [z]; exact p))
  | bad => rw [z] at p; exact .inr (hs' ι M H d d' v v' Q R q q' p)
def bMul (i j : Int) : Bool := decide ((-(2 ^ 64) < i ∧ i < 2 ^ 64) ∨ (-(2 ^ 64) < j ∧ j < 2 ^ 64))
def bDiv (_ j : Int) : Bool := decide (0 < j ∧ j < 1073741824)
def bMod (_ j : Int) : Bool := decide (0 < j)
def bPow (i j : Int) : Bool := decide (0 ≤ j ∧ j ≤ 1000000 ∧ i.natAbs < 2 ^ 64)
def sAddI : Op2 := iop C1 fun i j => .int (i + j)
def sSub : Op2 := iop C1 fun i j => .int (i - j)
def sMulI : Op2 := iop bMul fun i j => .int (i * j)
def sDiv : Op2 := iop bDiv fun i j => .int (i / j)
def sMod : Op2 := iop bMod fun i j => .int (i % j)
def sPow : Op2 := iop bPow fun i j => .int (i ^ j.toNat)
def sAnd : Op2 := iop C1 fun i j => .int (Builtin.bitAnd i j)
def sOr : Op2 := iop C1 fun i j => .int (Builtin.bitOr i j)
def sXor : Op2 := iop C1 fun i j => .int (Builtin.bitXor i j)
def sLtI : Op2 := iop C1 fun i j => .bl (decide (i < j))
def sLeI : Op2 := iop C1 fun i j => .bl (decide (i ≤ j))
def sGtI : Op2 := iop C1 fun i j => .bl (decide (j < i))
def sGeI : Op2 := iop C1 fun i j => .bl (decide (j ≤ i))
theorem bs_addI : BinS X ct (binaryOp .Add) sAddI := bin_int0 op_add fun _ _ _ _ _ _ => .int _
theorem bs_sub : BinS X ct (binaryOp .Sub) sSub := bin_int0 op_sub fun _ _ _ _ _ _ => .int _
theorem bs_mulI : BinS X ct (binaryOp .Mult) sMulI := bin_int op_mul (fun i j h => by unfold bMul at h; exact (decide_eq_true_eq.mp h :)) fun _ _ _ _ _ _ => .int _
theorem bs_div : BinS X ct (binaryOp .FloorDiv) sDiv := bin_int op_fdiv (fun i j h => by unfold bDiv at h; exact (decide_eq_true_eq.mp h :)) fun _ _ _ _ _ _ => .int _
theorem bs_mod : BinS X ct (binaryOp .Mod) sMod := bin_int op_mod (fun _ _ h => of_decide_eq_true h) fun _ _ _ _ _ _ => .int _
theorem bs_pow : BinS X ct (binaryOp .Pow) sPow := bin_int op_pow (fun i j h => by unfold bPow at h; exact (decide_eq_true_eq.mp h :)) fun _ _ _ _ _ _ => .int _
theorem bs_lt : BinS X ct (compareOp .Lt) sLtI := bin_int0 op_lt fun _ _ _ _ _ _ => .bl _
def sCat : Op2 := fun d e M => match d, e with
  | .ref n, .ref m => match M[n]?, M[m]? with
    | some (.lst xs), some (.lst ys) => if xs.length + ys.length ≤ sizeLine then .ok (.ref M.length) (M ++ [.lst (xs ++ ys)]) else .bad
    | _, _ => .bad
  | _, _ => .bad
theorem bs_cat : BinS X ct (binaryOp .Add) sCat := by
  refine ⟨_, op_cat, fun ι M H d d' v v' Q R h h' p => ?_⟩
  cases d with
  | ref n =>
    cases d' with
    | ref m =>
      obtain ⟨_, rfl⟩ := dv_ref h
      obtain ⟨_, rfl⟩ := dv_ref h'
      simp only [sCat] at p
      split at p
      · rename_i xs ys e1 e2
        split at p
        · rename_i hz
          obtain ⟨vs, q, r⟩ := R.obj n _ e1
          obtain ⟨vs', q', r'⟩ := R.obj m _ e2
          exact ⟨_, _, vs, vs', rfl, rfl, q, q', by rw [r.length, r'.length]; exact hz, fun pp hp => post_lst R (r.append r') hp p⟩
        · exact p.elim
      · exact p.elim
    | _ => exact p.elim
  | _ => cases d' <;> exact p.elim
def sAddS : Op2 := fun d e M => match d, e with
  | .str a, .str b => if a.length + b.length ≤ sizeLine then .ok (.str (a ++ b)) M else .bad
  | _, _ => .bad
theorem bs_addS : BinS X ct (binaryOp .Add) sAddS := by
  refine ⟨_, op_add_str, fun ι M H d d' v v' Q R h h' p => ?_⟩
  unfold sAddS at p
  split at p
  · cases dv_str h
    cases dv_str h'
    split at p
    · rename_i hz
      exact ⟨_, _, rfl, rfl, hz, p ι _ H .refl R (.str _)⟩
    · exact p.elim
  · exact p.elim
def sMulS : Op2 := fun d e M => match d, e with
  | .str a, .int n => if a.length ≤ 1000 ∧ -(2 ^ 62) < n ∧ n ≤ 1000 then .ok (.str (PySem.Txt.mul a n)) M else .bad
  | _, _ => .bad
theorem bs_mulS : BinS X ct (binaryOp .Mult) sMulS := by
  refine ⟨_, op_mul_str, fun ι M H d d' v v' Q R h h' p => ?_⟩
  unfold sMulS at p
  split at p
  · cases dv_str h
    cases dv_int h'
    split at p
    · rename_i hz
      exact ⟨_, _, rfl, rfl, mulOk_of hz.1 hz.2.1 hz.2.2, p ι _ H .refl R (.str _)⟩
    · exact p.elim
  · exact p.elim
def sMul : Op2 := orOp sMulI sMulS
theorem bs_mul : BinS X ct (binaryOp .Mult) sMul := bs_mulI.or bs_mulS
def sCatT : Op2 := fun d e M => match d, e with
  | .tup xs, .tup ys => if xs.isEmpty = false ∧ xs.length + ys.length ≤ sizeLine then .ok (.tup (xs ++ ys)) M else .bad
  | _, _ => .bad
theorem bs_catT : BinS X ct (binaryOp .Add) sCatT := by
  refine ⟨_, op_catT, fun ι M H d d' v v' Q R h h' p => ?_⟩
  unfold sCatT at p
  split at p
  · rename_i xs ys
    obtain ⟨a, vs, rfl, ha, hd⟩ := dv_tupH h
    obtain ⟨b, us, rfl, hb, hd'⟩ := dv_tupH h'
    split at p
    · rename_i hz
      have l1 := hd.length
      have l2 := hd'.length
      refine ⟨a, b, vs, us, rfl, rfl, SqT.of ha, SqT.of hb, fun z => ?_, by omega, fun z => ?_, fun _ pp hp => post_tup R (hd.append hd') hp p⟩
      · rw [z] at l1
        have := hz.1
        cases xs with
        | nil => cases this
        | cons _ _ => simp at l1
      · subst z
        have e : ys = [] := List.length_eq_zero_iff.mp l2.symm
        subst e
        rw [List.append_nil] at p
        exact p ι _ H .refl R (.tup ha hd)
    · exact p.elim
  · exact p.elim
def sAdd : Op2 := orOp (orOp sAddI sCat) (orOp sAddS sCatT)
theorem bs_add : BinS X ct (binaryOp .Add) sAdd := (bs_addI.or bs_cat).or (bs_addS.or bs_catT)
def sLtS : Op2 := fun d e M => match d, e with
  | .str a, .str b => .ok (.bl (decide (a.cps.toList < b.cps.toList))) M
  | _, _ => .bad
theorem bs_ltS : BinS X ct (compareOp .Lt) sLtS := by
  refine ⟨_, op_lt_str, fun ι M H d d' v v' Q R h h' p => ?_⟩
  unfold sLtS at p
  split at p
  · cases dv_str h
    cases dv_str h'
    exact ⟨_, _, rfl, rfl, p ι _ H .refl R (.bl _)⟩
  · exact p.elim
def toInts : List D → Option (List Int)
  | [] => some []
  | .int i :: r => (toInts r).map (i :: ·)
  | _ => none
theorem toInts_dv {K : PySem.W.Frag} {ι : Nat → Addr} {n : Nat} {H : Hp} : ∀ {ds : List D} {is : List Int} {vs : List V}, toInts ds = some is → DVs K ct ι n H ds vs → vs = is.map V.int
  | [], _, _, h, .nil => by cases h; rfl
  | d :: r, is, _, h, .cons q qs => by
    cases q with
    | int i =>
      simp only [toInts] at h
      obtain ⟨js, h1, rfl⟩ := Option.map_eq_some_iff.mp h
      rw [toInts_dv h1 qs]
      rfl
    | _ => simp only [toInts] at h; cases h
def sLtT : Op2 := fun d e M => match d, e with
  | .tup xs, .tup ys => match toInts xs, toInts ys with
    | some is, some js => .ok (.bl (HT.lexLt is js)) M
    | _, _ => .bad
  | _, _ => .bad
theorem bs_ltT (hu : X.A.units + 64 < cLine) : BinS X ct (compareOp .Lt) sLtT := by
  refine ⟨_, op_ltT (by omega), fun ι M H d d' v v' Q R h h' p => ?_⟩
  unfold sLtT at p
  split at p
  · obtain ⟨a, vs, rfl, ha, hd⟩ := dv_tupH h
    obtain ⟨b, us, rfl, hb, hd'⟩ := dv_tupH h'
    split at p
    · rename_i is js e1 e2
      have x1 := toInts_dv e1 hd
      have x2 := toInts_dv e2 hd'
      subst x1 x2
      exact ⟨a, b, is, js, rfl, rfl, SqT.of ha, SqT.of hb, p ι _ H .refl R (.bl _)⟩
    · exact p.elim
  · exact p.elim
def sLt : Op2 := orOp (orOp sLtI sLtS) sLtT
theorem bs_ltA (hu : X.A.units + 64 < cLine) : BinS X ct (compareOp .Lt) sLt := (bs_lt.or bs_ltS).or (bs_ltT hu)
def sNeg : D → Mem → Out D := fun d M => match d with
  | .int i => .ok (.int (-i)) M
  | _ => .bad
def sInv : D → Mem → Out D := fun d M => match d with
  | .int i => .ok (.int (Builtin.bitNot i)) M
  | _ => .bad
def mapO (f : D → Option Dt) : List D → Option (List Dt)
  | [] => some []
  | d :: ds => match f d, mapO f ds with
    | some t, some ts => some (t :: ts)
    | _, _ => none
def toDt (M : Mem) : Nat → D → Option Dt
  | 0, _ => none
  | k + 1, d => match d with
    | .non => some .non
    | .bl b => some (.bl b)
    | .int i => some (.int i)
    | .str x => some (.str x)
    | .tup ds => (mapO (toDt M k) ds).map .tup
    | .ref n => match lstOf M n with
      | some ds => (mapO (toDt M k) ds).map .lst
      | none => none
    | .cl ds => (mapO (toDt M k) ds).map .lst
    | .ty _ => none
    | .cls _ => none
    | .exc _ _ => none
theorem mapO_ok {K : PySem.W.Frag} {ι : Nat → Addr} {n : Nat} {H : Hp} {k : Nat} {f : D → Option Dt} (hf : ∀ d t v, f d = some t → DV K ct ι n H d v → Is K H v t ∧ dep t ≤ k) :
    ∀ {ds : List D} {ts : List Dt} {vs : List V}, mapO f ds = some ts → DVs K ct ι n H ds vs → Iss K H vs ts ∧ deps ts ≤ k
  | [], ts, _, h, .nil => by cases h; exact ⟨.nil, by unfold deps; exact Nat.zero_le _⟩
  | d :: ds, ts, _, h, .cons q qs => by
    simp only [mapO] at h
    cases z : f d with
    | none => rw [z] at h; cases h
    | some t =>
      cases z2 : mapO f ds with
      | none => rw [z, z2] at h; cases h
      | some ts' =>
        rw [z, z2] at h
        cases h
        obtain ⟨a, b⟩ := hf d t _ z q
        obtain ⟨a', b'⟩ := mapO_ok hf z2 qs
        exact ⟨.cons a a', by unfold deps; exact Nat.max_le.mpr ⟨b, b'⟩⟩
theorem toDt_ok {K : PySem.W.Frag} {ι : Nat → Addr} {M : Mem} {H : Hp} (R : Rl K ct ι M H) : ∀ (k : Nat) (d : D) (t : Dt) (v : V), toDt M k d = some t → DV K ct ι M.length H d v → Is K H v t ∧ dep t ≤ k
  | 0, d, t, v, h, _ => by simp only [toDt] at h; cases h
  | k + 1, d, t, v, h, q => by
    cases q with
    | non => simp only [toDt] at h; cases h; exact ⟨.non, by unfold dep; exact Nat.zero_le _⟩
    | bl b => simp only [toDt] at h; cases h; exact ⟨.bl b, by unfold dep; exact Nat.zero_le _⟩
    | int b => simp only [toDt] at h; cases h; exact ⟨.int b, by unfold dep; exact Nat.zero_le _⟩
    | str b => simp only [toDt] at h; cases h; exact ⟨.str b, by unfold dep; exact Nat.zero_le _⟩
    | ty b => simp only [toDt] at h; cases h
    | cls b => simp only [toDt] at h; cases h
    | exc _ _ _ => simp only [toDt] at h; cases h
    | @tup a xs ds hs hd =>
      simp only [toDt] at h
      cases z : mapO (toDt M k) ds with
      | none => rw [z] at h; cases h
      | some ts =>
        rw [z] at h
        cases h
        obtain ⟨a, b⟩ := mapO_ok (fun d t v => toDt_ok R k d t v) z hd
        exact ⟨.tup (SqT.of hs) a, by unfold dep; omega⟩
    | @ref i hi =>
      simp only [toDt] at h
      cases z0 : lstOf M i with
      | none => rw [z0] at h; cases h
      | some ds =>
        rw [z0] at h
        obtain ⟨xs, hs, hd⟩ := R.obj i _ (lstOf_iff.mp z0)
        cases z : mapO (toDt M k) ds with
        | none => simp only [z] at h; cases h
        | some ts =>
          simp only [z] at h
          cases h
          obtain ⟨a, b⟩ := mapO_ok (fun d t v => toDt_ok R k d t v) z hd
          exact ⟨.lst (SqL.of hs) a, by unfold dep; omega⟩
    | @cl a xs ds hs hd =>
      simp only [toDt] at h
      cases z : mapO (toDt M k) ds with
      | none => rw [z] at h; cases h
      | some ts =>
        rw [z] at h
        cases h
        obtain ⟨a, b⟩ := mapO_ok (fun d t v => toDt_ok R k d t v) z hd
        exact ⟨.lst hs.sq a, by unfold dep; omega⟩
def eqD (M : Mem) (d e : D) : Option Bool := match toDt M 12 d, toDt M 12 e with
  | some a, some b => some (deq a b)
  | _, _ => none
def sEq : Op2 := fun d e M => match eqD M d e with
  | some b => .ok (.bl b) M
  | none => .bad
def sNe : Op2 := fun d e M => match eqD M d e with
  | some b => .ok (.bl (!b)) M
  | none => .bad
theorem eqD_ok {K : PySem.W.Frag} {ι : Nat → Addr} {M : Mem} {H : Hp} {d e : D} {v u : V} {b : Bool} (R : Rl K ct ι M H) (h : eqD M d e = some b) (q : DV K ct ι M.length H d v) (q' : DV K ct ι M.length H e u) : ∃ x y, Is K H v x ∧ Is K H u y ∧ dep x ≤ 20 ∧ b = deq x y := by
  unfold eqD at h
  cases z : toDt M 12 d with
  | none => rw [z] at h; cases h
  | some x =>
    cases z2 : toDt M 12 e with
    | none => rw [z, z2] at h; cases h
    | some y =>
      rw [z, z2] at h
      cases h
      obtain ⟨a, c⟩ := toDt_ok R 12 d x v z q
      obtain ⟨a', _⟩ := toDt_ok R 12 e y u z2 q'
      exact ⟨x, y, a, a', by omega, rfl⟩
theorem bs_eq (hu : X.A.units + 64 < cLine) : BinS X ct (compareOp .Eq) sEq := by
  refine ⟨_, op_eqD hu, fun ι M H d d' v v' Q R h h' p => ?_⟩
  unfold sEq at p
  cases z : eqD M d d' with
  | none => rw [z] at p; exact p.elim
  | some b =>
    rw [z] at p
    obtain ⟨x, y, a, a', hd, rfl⟩ := eqD_ok R z h h'
    exact ⟨x, y, a, a', hd, p ι _ H .refl R (.bl _)⟩
theorem bs_ne (hu : X.A.units + 64 < cLine) : BinS X ct (compareOp .NotEq) sNe := by
  refine ⟨_, op_neD hu, fun ι M H d d' v v' Q R h h' p => ?_⟩
  unfold sNe at p
  cases z : eqD M d d' with
  | none => rw [z] at p; exact p.elim
  | some b =>
    rw [z] at p
    obtain ⟨x, y, a, a', hd, rfl⟩ := eqD_ok R z h h'
    exact ⟨x, y, a, a', hd, p ι _ H .refl R (.bl _)⟩
def isN (d : D) : Bool := match d with
  | .non => true
  | _ => false
def sIs : Op2 := fun d e M => match e with
  | .non => .ok (.bl (isN d)) M
  | _ => .bad
def sIsNot : Op2 := fun d e M => match e with
  | .non => .ok (.bl (!isN d)) M
  | _ => .bad
theorem DVs.atI {K : PySem.W.Frag} {ι : Nat → Addr} {n : Nat} {H : Hp} {ds : List D} {vs : List V} {i : Int} {d : D} (h : DVs K ct ι n H ds vs) (e : L2.atI ds i = some d) : ∃ v, L2.atI vs i = some v ∧ DV K ct ι n H d v := by
  unfold L2.atI at *
  rw [h.length]
  cases z : ixN ds.length i with
  | none => rw [z] at e; cases e
  | some j => rw [z] at e; exact h.at e
variable {a b : Expr} {ma mb : ME} {pos : Pos}
section
variable {κ : Type} [DecidableEq κ]
def valD (kvs : List (κ × D)) (k : κ) : Option D := (kvs.find? fun kv => decide (kv.1 = k)).map (·.2)
def putG (kvs : List (κ × D)) (k : κ) (d : D) : List (κ × D) := if (kvs.any fun kv => decide (kv.1 = k)) = true then kvs.map (fun kv => if kv.1 = k then (kv.1, d) else kv) else kvs ++ [(k, d)]
variable {K : PySem.W.Frag} {ι : Nat → Addr} {n : Nat} {H : Hp}
theorem PVs.val : ∀ {kvs : List (κ × D)} {vs : List (κ × V)}, PVs K ct ι n H kvs vs → ∀ k, (∀ d, valD kvs k = some d → ∃ v, valV vs k = some v ∧ DV K ct ι n H d v) ∧ (valD kvs k = none → valV vs k = none)
  | _, _, .nil, k => ⟨fun d h => by simp [valD] at h, fun _ => rfl⟩
  | _, _, .cons (x := x) (d := d) (v := v) (fs := fs) h hs, k => by
    by_cases e : x = k
    · have e1 : valD ((x, d) :: fs) k = some d := by simp [valD, e]
      rw [e1, valV_pos (p := (x, v)) e]
      exact ⟨fun d' q => by cases q; exact ⟨_, rfl, h⟩, fun q => by cases q⟩
    · have e1 : valD ((x, d) :: fs) k = valD fs k := by simp [valD, e]
      rw [e1, valV_neg (p := (x, v)) e]
      exact hs.val k
theorem PVs.any : ∀ {kvs : List (κ × D)} {vs : List (κ × V)}, PVs K ct ι n H kvs vs → ∀ k, (vs.any fun kv => decide (kv.1 = k)) = (kvs.any fun kv => decide (kv.1 = k))
  | _, _, .nil, _ => rfl
  | _, _, .cons _ hs, k => by simp only [List.any_cons, hs.any k]
theorem PVs.repl {d : D} {v : V} (hd : DV K ct ι n H d v) (k : κ) : ∀ {kvs : List (κ × D)} {vs : List (κ × V)}, PVs K ct ι n H kvs vs → PVs K ct ι n H (kvs.map fun kv => if kv.1 = k then (kv.1, d) else kv) (vs.map fun kv => if kv.1 = k then (kv.1, v) else kv)
  | _, _, .nil => .nil
  | _, _, .cons (x := x) h hs => by
    simp only [List.map_cons]
    by_cases e : x = k
    · rw [if_pos e, if_pos e]; exact .cons hd (hs.repl hd k)
    · rw [if_neg e, if_neg e]; exact .cons h (hs.repl hd k)
theorem PVs.snoc {d : D} {v : V} (hd : DV K ct ι n H d v) (k : κ) : ∀ {kvs : List (κ × D)} {vs : List (κ × V)}, PVs K ct ι n H kvs vs → PVs K ct ι n H (kvs ++ [(k, d)]) (vs ++ [(k, v)])
  | _, _, .nil => .cons hd .nil
  | _, _, .cons h hs => .cons h (hs.snoc hd k)
theorem PVs.put {d : D} {v : V} {kvs : List (κ × D)} {vs : List (κ × V)} (h : PVs K ct ι n H kvs vs) (hd : DV K ct ι n H d v) (k : κ) : PVs K ct ι n H (putG kvs k d) (putK vs k v) := by
  unfold putG putK
  rw [h.any k]
  split
  · exact h.repl hd k
  · exact h.snoc hd k
end
def toKey : D → Option Key
  | .int i => some (.inl i)
  | .str s => some (.inr s)
  | _ => none
def toKeys : List D → Option (List Key)
  | [] => some []
  | d :: r => match toKey d, toKeys r with
    | some k, some ks => some (k :: ks)
    | _, _ => none
section
variable {K : PySem.W.Frag} {ι : Nat → Addr} {n : Nat} {H : Hp}
theorem toKey_dv {d : D} {k : Key} {v : V} (h : toKey d = some k) (q : DV K ct ι n H d v) : v = kV k := by
  cases q <;> simp only [toKey] at h <;> cases h <;> rfl
theorem toKeys_dv : ∀ {ds : List D} {ks : List Key} {vs : List V}, toKeys ds = some ks → DVs K ct ι n H ds vs → vs = ks.map kV
  | [], ks, _, h, .nil => by cases h; rfl
  | d :: r, ks, _, h, .cons q qs => by
    simp only [toKeys] at h
    cases z : toKey d with
    | none => rw [z] at h; cases h
    | some k =>
      cases z2 : toKeys r with
      | none => rw [z, z2] at h; cases h
      | some kr =>
        rw [z, z2] at h
        cases h
        rw [toKey_dv z q, toKeys_dv z2 qs]
        rfl
end
def dSee (M : Mem) (n : Nat) (y : D) : Option (Option D × Mem) := match M[n]? with
  | some (.dk kvs) => match toKey y with
    | some k => some (valD kvs k, M)
    | none => match y with
      | .tup ds => match toKeys ds with
        | some _ => if kvs.isEmpty = true then some (none, M.set n (.dt [])) else none
        | none => none
      | _ => none
  | some (.dt kvs) => match y with
    | .tup ds => match toKeys ds with
      | some k => some (valD kvs k, M)
      | none => none
    | _ => none
  | _ => none
theorem dSee_ok {K : PySem.W.Frag} {ι : Nat → Addr} {M M' : Mem} {H : Hp} {n : Nat} {y : D} {vy : V} {o : Option D} (R : Rl K ct ι M H) (h : dSee M n y = some (o, M')) (hn : n < M.length) (q : DV K ct ι M.length H y vy) :
    ∃ ov H', DSee H (ι n) vy ov H' ∧ Ext K ι M.length H ι M'.length H' ∧ Rl K ct ι M' H' ∧ (∀ d, o = some d → ∃ v, ov = some v ∧ DV K ct ι M'.length H' d v ∧ H' = H ∧ M' = M) ∧ (o = none → ov = none) := by
  unfold dSee at h
  split at h
  · rename_i kvs e
    obtain ⟨vs, hH, pv⟩ := R.obj n _ e
    split at h
    · rename_i k ek
      cases h
      have ey := toKey_dv ek q
      subst ey
      refine ⟨valV vs k, H, .inl ⟨DGet.k hH, rfl⟩, .refl, R, fun d hd => ?_, fun hd => (pv.val k).2 hd⟩
      obtain ⟨v, h1, h2⟩ := (pv.val k).1 d hd
      exact ⟨v, h1, h2, rfl, rfl⟩
    · split at h
      · rename_i ds
        split at h
        · rename_i ks eks
          split at h
          · rename_i hem
            cases h
            have ek : kvs = [] := List.isEmpty_iff.mp hem
            subst ek
            cases pv
            obtain ⟨b, xs, rfl, hb, hd⟩ := dv_tupH q
            have ex := toKeys_dv eks hd
            subst ex
            have x2 : Ext K ι M.length H ι M.length (upd H (ι n) (.dT [])) := Ext.chg hH (fun _ z => nomatch z) (fun _ _ z => nomatch z)
            refine ⟨none, upd H (ι n) (.dT []), .inr ⟨hH, ⟨ks, b, rfl, hb⟩, rfl, rfl⟩, by rw [List.length_set]; exact x2, R.chg hn hH (fun _ z => nomatch z) (fun _ _ z => nomatch z) ⟨[], upd_same, .nil⟩, (fun d hd => nomatch hd), fun _ => rfl⟩
          · cases h
        · cases h
      · cases h
  · rename_i kvs e
    obtain ⟨vs, hH, pv⟩ := R.obj n _ e
    split at h
    · rename_i ds
      split at h
      · rename_i ks eks
        cases h
        obtain ⟨b, xs, rfl, hb, hd⟩ := dv_tupH q
        have ex := toKeys_dv eks hd
        subst ex
        refine ⟨valV vs ks, H, .inl ⟨DGet.t hH hb, rfl⟩, .refl, R, fun d hd => ?_, fun hd => (pv.val ks).2 hd⟩
        obtain ⟨v, h1, h2⟩ := (pv.val ks).1 d hd
        exact ⟨v, h1, h2, rfl, rfl⟩
      · cases h
    · cases h
  · cases h
def sIxD : Op2 := fun d y M => match d with
  | .ref n => match dSee M n y with
    | some (some v, _) => .ok v M
    | _ => .bad
  | _ => .bad
theorem os_ixD {K : PySem.W.Frag} : OpS K ct sIxD rIxD := by
  intro w ι M H d d' v v' Q R h h' p
  cases d with
  | ref n =>
    obtain ⟨hn, rfl⟩ := dv_ref h
    simp only [sIxD] at p
    split at p
    · rename_i x M' e
      obtain ⟨ov, H', g, _, _, h1, _⟩ := dSee_ok R e hn h'
      obtain ⟨vx, rfl, dv, rfl, rfl⟩ := h1 x rfl
      rcases g with ⟨g, _⟩ | ⟨_, _, z, _⟩
      · exact ⟨_, vx, rfl, g, p ι vx _ .refl R dv⟩
      · cases z
    · exact p.elim
  | _ => exact p.elim
def sIxS : Op2 := fun d e M => match e with
  | .int i => match d with
    | .tup ds => match L2.atI ds i with
      | some x => .ok x M
      | none => .bad
    | d => match seqL M d with
      | some ds => match L2.atI ds i with
        | some x => .ok x M
        | none => .bad
      | none => .bad
  | _ => .bad
theorem os_ixS : OpS X.K ct sIxS (fun x y H Q => rIxL X.K x y H Q ∨ rIxT X.K x y H Q) := by
  intro w ι M H d d' v v' Q R h h' p
  cases d' with
  | int i =>
    cases dv_int h'
    cases d with
    | tup ds =>
      obtain ⟨aa, xs, rfl, hs, hd⟩ := dv_tup h
      simp only [sIxS] at p
      cases z : L2.atI ds i with
      | none => rw [z] at p; exact p.elim
      | some x =>
        rw [z] at p
        obtain ⟨v, e, dv⟩ := hd.atI z
        exact .inr ⟨_, _, _, _, rfl, rfl, hs, e, p ι v H .refl R dv⟩
    | _ =>
      simp only [sIxS] at p
      split at p
      · rename_i ds z0
        obtain ⟨aa, xs, rfl, hs, hd⟩ := R.seq z0 h
        cases z : L2.atI ds i with
        | none => rw [z] at p; exact p.elim
        | some x =>
          rw [z] at p
          obtain ⟨v, e, dv⟩ := hd.atI z
          exact .inl ⟨_, _, _, _, rfl, rfl, hs, e, p ι v H .refl R dv⟩
      · exact p.elim
  | _ => exact p.elim
def sIxT : Op2 := fun d e M => match d, e with
  | .str z, .int i => match L2.atI z.cps.toList i with
    | some c => if z.length ≤ sizeLine then .ok (.str ⟨#[c]⟩) M else .bad
    | none => .bad
  | _, _ => .bad
theorem os_ixT {K : PySem.W.Frag} : OpS K ct sIxT rIxS := by
  intro w ι M H d d' v v' Q R h h' p
  unfold sIxT at p
  split at p
  · rename_i z i
    cases dv_str h
    cases dv_int h'
    cases e : L2.atI z.cps.toList i with
    | none => rw [e] at p; exact p.elim
    | some c =>
      rw [e] at p
      dsimp only at p
      split at p
      · rename_i hz
        exact ⟨z, i, c, rfl, rfl, hz, e, p ι _ H .refl R (.str _)⟩
      · exact p.elim
  · exact p.elim
def sIx : Op2 := orOp (orOp sIxS sIxD) sIxT
theorem se_ix (hu : X.A.units + 64 < cLine) (ha : SE X ct W a ma) (hb : SE X ct W b mb) (hs : PlainIx b := by exact fun _ _ => rfl) : SE X ct W (.Subscript a b pos) (mBin sIx ma mb) :=
  se_of (pe_ix (((ix_list.or ix_tup).or (ix_dict (by omega))).or ix_str) ha hb hs) fun σ H Q q => tOp_of (OpS.or (OpS.or os_ixS os_ixD) os_ixT) q
def sInD (neg : Bool) : Op2 := fun y x M => match x with
  | .ref n => match dSee M n y with
    | some (o, M') => .ok (.bl (if neg = true then !o.isSome else o.isSome)) M'
    | none => .bad
  | _ => .bad
theorem os_inD {K : PySem.W.Frag} {neg : Bool} : OpS K ct (sInD neg) (rDIn neg) := by
  intro w ι M H d d' v v' Q R h h' p
  cases d' with
  | ref n =>
    obtain ⟨hn, rfl⟩ := dv_ref h'
    simp only [sInD] at p
    cases e : dSee M n d with
    | none => rw [e] at p; exact p.elim
    | some oM =>
      obtain ⟨o, M'⟩ := oM
      rw [e] at p
      obtain ⟨ov, H', g, x, R', h1, h2⟩ := dSee_ok R e hn h
      have es : ov.isSome = o.isSome := by
        cases o with
        | none => rw [h2 rfl]; rfl
        | some d => obtain ⟨v, rfl, _⟩ := h1 d rfl; rfl
      exact ⟨_, ov, H', rfl, g, by rw [es]; exact p ι _ H' x R' (.bl _)⟩
  | _ => cases d <;> exact p.elim
def toVf : D → Option V
  | .non => some .non
  | .bl b => some (.bl b)
  | .int i => some (.int i)
  | .str s => some (.str s)
  | _ => none
def toVs : List D → Option (List V)
  | [] => some []
  | d :: r => match toVf d, toVs r with
    | some v, some vs => some (v :: vs)
    | _, _ => none
theorem toVf_dv {K : PySem.W.Frag} {ι : Nat → Addr} {n : Nat} {H : Hp} {d : D} {u v : V} (h : toVf d = some u) (q : DV K ct ι n H d v) : v = u ∧ flatV u = true := by
  cases q <;> simp only [toVf] at h <;> cases h <;> exact ⟨rfl, rfl⟩
theorem toVs_dv {K : PySem.W.Frag} {ι : Nat → Addr} {n : Nat} {H : Hp} : ∀ {ds : List D} {us vs : List V}, toVs ds = some us → DVs K ct ι n H ds vs → vs = us ∧ us.all flatV = true
  | [], _, _, h, .nil => by cases h; exact ⟨rfl, rfl⟩
  | d :: r, us, _, h, .cons q qs => by
    simp only [toVs] at h
    cases z : toVf d with
    | none => rw [z] at h; cases h
    | some u =>
      cases z2 : toVs r with
      | none => rw [z, z2] at h; cases h
      | some ur =>
        rw [z, z2] at h
        cases h
        obtain ⟨rfl, f1⟩ := toVf_dv z q
        obtain ⟨rfl, f2⟩ := toVs_dv z2 qs
        exact ⟨rfl, by simp [f1, f2]⟩
theorem bs_notinD (hu : X.A.units + 64 < cLine) : BinS X ct (compareOp .NotIn) (sInD true) := ⟨_, op_dNotIn (by omega), os_inD⟩
def cut {α : Type} (xs : List α) (lo hi : Option Int) : List α := (xs.drop (HT.sIx xs.length 0 lo)).take (HT.sIx xs.length xs.length hi - HT.sIx xs.length 0 lo)
theorem DVs.cut {K : PySem.W.Frag} {ι : Nat → Addr} {n : Nat} {H : Hp} {ds : List D} {vs : List V} (h : DVs K ct ι n H ds vs) (lo hi : Option Int) : DVs K ct ι n H (S.cut ds lo hi) (cutV vs lo hi) := by
  unfold S.cut cutV
  rw [h.length]
  exact (h.drop _).take _
abbrev MO' := Sl → Mem → Out (Option Int)
def relO : (Nat → Addr) → Mem → Hp → Option Int → Option Int → Prop := fun _ _ _ a b => a = b
def SO (X : Cx) (ct : Nat → Addr) (W : XWish) (e : Option Expr) (m : MO') : Prop := PO X e (tG relO X.K ct W m)
def asI (d : D) (M : Mem) : Out (Option Int) := match d with
  | .int i => .ok (some i) M
  | _ => .bad
def mNoPart : MO' := fun _ M => .ok none M
def mPart (m : ME) : MO' := fun e M => (m e M).bind asI
theorem so_none : SO X ct W none mNoPart := fun pins s σ H Q I ⟨ι, e, M, w, p⟩ => po_none pins s σ H Q I (p ι none H .refl w.rl rfl)
theorem so_some (h : SE X ct W a ma) : SO X ct W (some a) (mPart ma) := fun pins s σ H Q I q => po_some h pins s σ H Q I (by
  obtain ⟨ι, e, M, w, p⟩ := tG_bind (relα := relD X.K ct) (f := fun d _ M1 => asI d M1) q
  refine ⟨ι, e, M, w, p.mono fun v H1 ⟨ι1, e1, M1, d, w1, q1, p1⟩ => ?_⟩
  cases q1 with
  | int i => exact ⟨i, rfl, p1 ι1 _ H1 .refl w1.rl rfl⟩
  | _ => exact p1.elim)
def sSl (d : D) (lo hi : Option Int) (M : Mem) : Out D := match d with
  | .tup ds => if HT.sIx ds.length 0 lo = 0 ∧ HT.sIx ds.length ds.length hi = ds.length then .bad else .ok (.tup (cut ds lo hi)) M
  | .str u => if u.length ≤ sizeLine then .ok (.str (Txt.slice u lo hi)) M else .bad
  | d => match seqL M d with
    | some ds => .ok (.ref M.length) (M ++ [.lst (cut ds lo hi)])
    | none => .bad
def mSl (m : ME) (lo hi : MO') : ME := fun e M => (m e M).bind fun d M1 => (lo e M1).bind fun l M2 => (hi e M2).bind fun h M3 => sSl d l h M3
theorem se_sl {lo hi : Option Expr} {ml mh : MO'} {p2 : Pos} (ha : SE X ct W a ma) (hl : SO X ct W lo ml) (hh : SO X ct W hi mh) : SE X ct W (.Subscript a (.Slice lo hi none p2) pos) (mSl ma ml mh) := by
  refine se_of (pe_slice ((sl_list.or sl_tup).or sl_str) ha hl hh) fun σ H Q q => ?_
  obtain ⟨ι, e, M, w, p⟩ := tG_bind (relα := relD X.K ct) (f := fun d e M1 => (ml e M1).bind fun l M2 => (mh e M2).bind fun h M3 => sSl d l h M3) q
  refine ⟨ι, e, M, w, p.mono fun v H1 ⟨ι1, e1, M1, d, w1, q1, p1⟩ => ?_⟩
  refine ⟨ι1, e1, M1, w1, ?_⟩
  cases z : ml e1 M1 with
  | bad => simp only [z, Out.bind_bad] at p1; exact p1
  | exc xc xd xM => simp only [z, Out.bind_exc] at p1; exact p1
  | ok l M2 =>
    simp only [z, Out.bind_ok] at p1
    intro ι2 l' H2 x2 r2 el
    have hEq : l = l' := el; subst hEq
    refine ⟨ι2, e1, M2, w1.ext x2 r2, ?_⟩
    have p2 := p1.ext x2
    cases z2 : mh e1 M2 with
    | bad => simp only [z2, Out.bind_bad] at p2; exact p2
    | exc xc xd xM => simp only [z2, Out.bind_exc] at p2; exact p2
    | ok h M3 =>
      simp only [z2, Out.bind_ok] at p2
      intro ι3 h' H3 x3 r3 eh
      have hEq : h = h' := eh; subst hEq
      have p3 := p2.ext x3
      have q3 := (q1.mono x2).mono x3
      cases d with
      | tup ds =>
        obtain ⟨aa, xs, rfl, hs, hd⟩ := dv_tup q3
        simp only [sSl] at p3
        split at p3
        · exact p3.elim
        · rename_i hw
          exact .inl (.inr ⟨_, _, rfl, hs, by rw [hd.length]; exact hw, fun pp hp => post_tup r3 (hd.cut l h) hp p3⟩)
      | str u =>
        cases dv_str q3
        simp only [sSl] at p3
        split at p3
        · rename_i hz
          exact .inr ⟨u, rfl, hz, p3 ι3 _ H3 .refl r3 (.str _)⟩
        · exact p3.elim
      | _ =>
        simp only [sSl] at p3
        split at p3
        · rename_i ds z0
          obtain ⟨aa, xs, rfl, hs, hd⟩ := r3.seq z0 q3
          exact .inl (.inl ⟨_, _, rfl, hs, fun pp hp => post_lst r3 (hd.cut l h) hp p3⟩)
        · exact p3.elim
theorem dvs1 {K : PySem.W.Frag} {ι : Nat → Addr} {n : Nat} {H : Hp} {d : D} {vs : List V} (h : DVs K ct ι n H [d] vs) : ∃ v, vs = [v] ∧ DV K ct ι n H d v := by
  cases h with | cons a b => cases b; exact ⟨_, rfl, a⟩
def seqOf (M : Mem) (d : D) : Option (List D) := match d with
  | .tup ds => some ds
  | d => seqL M d
theorem Rl.seqs {K : PySem.W.Frag} {ι : Nat → Addr} {M : Mem} {H : Hp} (R : Rl K ct ι M H) {d : D} {v : V} {ds : List D} (h : seqOf M d = some ds) (q : DV K ct ι M.length H d v) : ∃ a xs, v = .ref a ∧ (SqL K H a xs ∨ SqT K H a xs) ∧ DVs K ct ι M.length H ds xs := by
  cases d with
  | tup es => cases h; obtain ⟨a, xs, e, hs, hd⟩ := dv_tup q; exact ⟨a, xs, e, .inr hs, hd⟩
  | _ => simp only [seqOf] at h; obtain ⟨a, xs, e, hs, hd⟩ := R.seq h q; exact ⟨a, xs, e, .inl hs, hd⟩
def sLenS : OpN := fun ds M => match ds with
  | [d] => match seqOf M d with
    | some es => .ok (.int es.length) M
    | none => .bad
  | _ => .bad
theorem cs_lenS : CallS X ct (.builtin "len") sLenS := by
  refine ⟨_, call_len_seq, fun ι M H ds vs Q R h p => ?_⟩
  unfold sLenS at p
  split at p
  · rename_i d
    obtain ⟨v, rfl, q⟩ := dvs1 h
    cases z : seqOf M d with
    | none => rw [z] at p; exact p.elim
    | some es =>
      rw [z] at p
      obtain ⟨a, xs, rfl, hs, hd⟩ := R.seqs z q
      exact ⟨_, xs, rfl, hs, p ι _ H .refl R (by rw [hd.length]; exact .int _)⟩
  · exact p.elim
def orN (a b : OpN) : OpN := fun ds M => match a ds M with
  | .bad => b ds M
  | o => o
theorem CallS.or {f : Value} {a b : OpN} (ha : CallS X ct f a) (hb : CallS X ct f b) : CallS X ct f (orN a b) := by
  obtain ⟨r, h, hs⟩ := ha
  obtain ⟨r', h', hs'⟩ := hb
  refine ⟨_, h.or h', fun ι M H ds vs Q R q p => ?_⟩
  unfold orN at p
  cases z : a ds M with
  | ok x M1 => rw [z] at p; exact .inl (hs ι M H ds vs Q R q (by rw [z]; exact p))
  | exc xc xd xM => rw [z] at p; exact .inl (hs ι M H ds vs Q R q (by rw [z]; exact p))
  | bad => rw [z] at p; exact .inr (hs' ι M H ds vs Q R q p)
theorem orN_ok {a b : OpN} {ds : List D} {x : D} {M M' : Mem} (h : a ds M = .ok x M') : orN a b ds M = .ok x M' := by unfold orN; rw [h]
def sLenD : OpN := fun ds M => match ds with
  | [.ref n] => match M[n]? with
    | some (.dk kvs) => .ok (.int kvs.length) M
    | some (.dt kvs) => .ok (.int kvs.length) M
    | _ => .bad
  | _ => .bad
theorem cs_lenD : CallS X ct (.builtin "len") sLenD := by
  refine ⟨_, call_lenD.or call_lenT, fun ι M H ds vs Q R h p => ?_⟩
  unfold sLenD at p
  split at p
  · rename_i n
    obtain ⟨v, rfl, q⟩ := dvs1 h
    obtain ⟨hn, rfl⟩ := dv_ref q
    split at p
    · rename_i kvs e
      obtain ⟨ys, hH, pv⟩ := R.obj n _ e
      exact .inl ⟨_, ys, rfl, hH, by rw [pv.length]; exact p ι _ H .refl R (.int _)⟩
    · rename_i kvs e
      obtain ⟨ys, hH, pv⟩ := R.obj n _ e
      exact .inr ⟨_, ys, rfl, hH, by rw [pv.length]; exact p ι _ H .refl R (.int _)⟩
    · exact p.elim
  · exact p.elim
def sInS (neg : Bool) : Op2 := fun y x M => match toVf y, seqOf M x with
  | some v, some ds => match toVs ds with
    | some vs => .ok (.bl (if neg = true then !inV v vs else inV v vs)) M
    | none => .bad
  | _, _ => .bad
theorem os_inS {K : PySem.W.Frag} {neg : Bool} : OpS K ct (sInS neg) (rIn K neg) := by
  intro w ι M H d d' v v' Q R h h' p
  unfold sInS at p
  split at p
  · rename_i u ds e1 e2
    obtain ⟨rfl, f1⟩ := toVf_dv e1 h
    obtain ⟨a, xs, rfl, hs, hd⟩ := R.seqs e2 h'
    cases e3 : toVs ds with
    | none => rw [e3] at p; exact p.elim
    | some us =>
      rw [e3] at p
      obtain ⟨rfl, f2⟩ := toVs_dv e3 hd
      exact ⟨a, _, rfl, hs, f1, f2, p ι _ H .refl R (.bl _)⟩
  · exact p.elim
def sNotIn : Op2 := orOp (sInD true) (sInS true)
theorem bs_notin (hu : X.A.units + 64 < cLine) : BinS X ct (compareOp .NotIn) sNotIn := (bs_notinD hu).or ⟨_, op_notIn_seq, os_inS⟩
def sLenT : OpN := fun ds M => match ds with
  | [.str z] => if z.length ≤ sizeLine then .ok (.int z.length) M else .bad
  | _ => .bad
theorem cs_lenT : CallS X ct (.builtin "len") sLenT := by
  refine ⟨_, call_len_str, fun ι M H ds vs Q R h p => ?_⟩
  unfold sLenT at p
  split at p
  · obtain ⟨v, rfl, q⟩ := dvs1 h
    cases dv_str q
    split at p
    · rename_i hz
      exact ⟨_, rfl, hz, p ι _ H .refl R (.int _)⟩
    · exact p.elim
  · exact p.elim
def sLen : OpN := orN (orN sLenS sLenD) sLenT
theorem cs_len : CallS X ct (.builtin "len") sLen := (cs_lenS.or cs_lenD).or cs_lenT
def sMax2 : OpN := fun ds M => match ds with
  | [.int i, .int j] => .ok (.int (if j > i then j else i)) M
  | _ => .bad
def sMin2 : OpN := fun ds M => match ds with
  | [.int i, .int j] => .ok (.int (if j < i then j else i)) M
  | _ => .bad
def sList : OpN := fun ds M => match ds with
  | [d] => match seqOf M d with
    | some es => .ok (.ref M.length) (M ++ [.lst es])
    | none => .bad
  | _ => .bad
def sTuple : OpN := fun ds M => match ds with
  | [d] => match seqOf M d with
    | some es => .ok (.tup es) M
    | none => .bad
  | _ => .bad
theorem cs_tuple : CallS X ct (.type "tuple") sTuple := by
  refine ⟨_, call_tuple_of, fun ι M H ds vs Q R h p => ?_⟩
  unfold sTuple at p
  split at p
  · rename_i d
    obtain ⟨v, rfl, q⟩ := dvs1 h
    cases d with
    | tup es =>
      obtain ⟨aa, xs, rfl, hs, hd⟩ := dv_tupH q
      exact ⟨_, xs, rfl, .inr ⟨SqT.of hs, p ι _ H .refl R (.tup hs hd)⟩⟩
    | _ =>
      split at p
      · rename_i es z
        simp only [seqOf] at z
        obtain ⟨a, xs, rfl, hs, hd⟩ := R.seq z q
        exact ⟨_, xs, rfl, .inl ⟨hs, fun pp hp => post_tup R hd hp p⟩⟩
      · exact p.elim
  · exact p.elim
def tyN (M : Mem) (d : D) : Option String := match d with
  | .non => some "NoneType"
  | .bl _ => some "bool"
  | .int _ => some "int"
  | .str _ => some "str"
  | .tup _ => some "tuple"
  | .ref n => (lstOf M n).map fun _ => "list"
  | .cl _ => some "list"
  | _ => none
def subT (a b : String) : Bool := a == b || (a == "bool" && b == "int")
def tyKnown : List String := ["NoneType", "bool", "int", "str", "tuple", "list"]
def sIsi : OpN := fun ds M => match ds with
  | [d, .ty b] => match tyN M d with
    | some a => if b ∈ tyKnown then .ok (.bl (subT a b)) M else .bad
    | none => .bad
  | _ => .bad
@[irreducible] def rIsi2 (K : PySem.W.Frag) : List V → Hp → VK → Prop := fun xs H Q => ∃ x n b, xs = [x, .ty n] ∧ Q (.bl b) H ∧
  ((∃ t, TyOf K H x t ∧ PySem.W.kitOne K t (.type n) = some b) ∨ (∃ a ys, x = .ref a ∧ SqT K H a ys ∧ PySem.W.kitOne K (.type "tuple") (.type n) = some b) ∨ (∃ a ys, x = .ref a ∧ SqL K H a ys ∧ PySem.W.kitOne K (.type "list") (.type n) = some b))
def MtS (X : Cx) (ct : Nat → Addr) (T id : String) (op : D → List D → Mem → Out D) : Prop := ∃ r, MtR X id r ∧ ∀ {w : XW} ι M H d ds v vs Q, Rl X.K ct ι M H → DV X.K ct ι M.length H d v → DVs X.K ct ι M.length H ds vs → PostG (relD X.K ct) X.K ct w ι M.length H (op d ds M) Q → r v vs H Q
def tyD (T : String) (d : D) (M : Mem) : Bool := match d with
  | .int _ => T == "int"
  | .str _ => T == "str"
  | .ref n => T == "list" && (lstOf M n).isSome
  | _ => false
theorem tyD_ok {K : PySem.W.Frag} {ι : Nat → Addr} {M : Mem} {H : Hp} {T : String} {d : D} {v : V} (R : Rl K ct ι M H) (h : tyD T d M = true) (q : DV K ct ι M.length H d v) : tyV K T v H := by
  cases q with
  | int i => exact beq_iff_eq.mp h
  | str i => exact beq_iff_eq.mp h
  | @ref i hi =>
    simp only [tyD, Bool.and_eq_true, beq_iff_eq] at h
    obtain ⟨e, h2⟩ := h
    obtain ⟨ds, z⟩ := Option.isSome_iff_exists.mp h2
    obtain ⟨xs, hs, _⟩ := R.obj i _ (lstOf_iff.mp z)
    exact .inl ⟨e, xs, SqL.of hs⟩
  | _ => exact absurd h Bool.false_ne_true
def mBM (T : String) (op : D → List D → Mem → Out D) (mo : ME) (ms : MA) : ME := fun e M => (mo e M).bind fun d M1 => if tyD T d M1 = true then (ms e M1).bind fun ds M2 => op d ds M2 else .bad
variable {o : Expr} {es : List Expr} {mo : ME} {ms : MA} {name : Str} {apos cpos : Pos} {T id : String} {op : D → List D → Mem → Out D}
theorem se_bm (pa : PlainAttrs T) (slot : Slot T name id) (hty : typeOf (.builtin id) = pure (.type "method_descriptor")) (hm : MtS X ct T id op) (ho : SE X ct W o mo) (ha : SA X ct W (a :: es) ms)
    (hbase : attributeBase o name X.env (eval o X.env) = eval o X.env := by rfl)
    (hfew : ((backTo cpos (starEach (a :: es) X.env)).all (fun x => !x.1) && (backToKw cpos (keywordEach [] X.env)).all (fun x => x.1.isSome)
      && decide ((a :: es).length + ([] : List Keyword).length + (if ([] : List Keyword).isEmpty then 0 else 1) < 30)) = true := by rfl)
    (hline : (apos.endLine == cpos.line) = true := by rfl) (hs : starEach (a :: es) X.env = (false, eval a X.env) :: starEach es X.env := by rfl) (hplain : (backTo cpos (starEach es X.env)).any (·.1) = false := by rfl) :
    SE X ct W (.Call (.Attribute o name apos) (a :: es) [] cpos) (mBM T op mo ms) := by
  obtain ⟨r, hr, hss⟩ := hm
  refine se_of (pe_bm pa slot hty hr ho ha hbase hfew hline hs hplain) fun σ H Q q => ?_
  obtain ⟨ι, e, M, w, p⟩ := tG_bind (relα := relD X.K ct) (f := fun d e M1 => if tyD T d M1 = true then (ms e M1).bind fun ds M2 => op d ds M2 else .bad) q
  refine ⟨ι, e, M, w, p.mono fun v H1 ⟨ι1, e1, M1, d, w1, q1, p1⟩ => ?_⟩
  cases z : tyD T d M1 with
  | false => simp only [z, Bool.false_eq_true, if_false] at p1; exact p1.elim
  | true =>
    simp only [z, if_true] at p1
    refine ⟨tyD_ok w1.rl z q1, ι1, e1, M1, w1, ?_⟩
    cases z2 : ms e1 M1 with
    | bad => simp only [z2, Out.bind_bad] at p1; exact p1
    | exc xc xd xM => simp only [z2, Out.bind_exc] at p1; exact p1
    | ok ds M2 =>
      simp only [z2, Out.bind_ok] at p1
      exact fun ι2 vs H2 x2 r2 q2 => hss ι2 M2 H2 d ds v vs Q r2 (q1.mono x2) q2 (p1.ext x2)
def sAppend : D → List D → Mem → Out D := fun d ds M => match d, ds with
  | .ref n, [x] => match M[n]? with
    | some (.lst es) => if es.length < sizeLine then .ok .non (M.set n (.lst (es ++ [x]))) else .bad
    | _ => .bad
  | _, _ => .bad
theorem ms_append : MtS X ct "list" "list.append" sAppend := by
  refine ⟨_, mt_append, fun ι M H d ds v vs Q R q qs p => ?_⟩
  unfold sAppend at p
  split at p
  · rename_i n x
    obtain ⟨hn, rfl⟩ := dv_ref q
    obtain ⟨y, rfl, qy⟩ := dvs1 qs
    split at p
    · rename_i es e1
      split at p
      · rename_i hz
        obtain ⟨xs, hH, hd⟩ := R.obj n _ e1
        have x2 : Ext X.K ι M.length H ι M.length (upd H (ι n) (.lst (xs ++ [y]))) := Ext.chg hH (fun _ z => nomatch z) (fun _ _ z => nomatch z)
        refine ⟨_, xs, y, rfl, rfl, hH, by rw [hd.length]; exact hz, ?_⟩
        refine p ι .non _ (by rw [List.length_set]; exact x2) (R.chg hn hH (fun _ z => nomatch z) (fun _ _ z => nomatch z) ⟨_, upd_same, (hd.append (.cons qy .nil)).mono x2⟩) .non
      · exact p.elim
    · exact p.elim
  · exact p.elim
def sBits : D → List D → Mem → Out D := fun d ds M => match d, ds with
  | .int i, [] => .ok (.int (Builtin.Int.intBits i : Nat)) M
  | _, _ => .bad
end
end S
namespace S
open PySem PySem.Spec PyProof.Rows L2
inductive SOut where
  | next (e : Sl) (M : Mem) | ret (d : D) (M : Mem) | brk (e : Sl) (M : Mem) | cont (e : Sl) (M : Mem) | exc (c : Nat) (d : D) (e : Sl) (M : Mem) | bad
abbrev MS := Sl → Mem → SOut
def PostS (K : PySem.W.Frag) (ct : Nat → Addr) (W : XWish) (ι : Nat → Addr) (n : Nat) (H : Hp) (o : SOut) (T : Ends) : Prop := match o with
  | .next e M => ∀ ι' σ' H', Ext K ι n H ι' M.length H' → Ws K ct ι' e M σ' H' → T.nx σ' H'
  | .ret d M => ∀ ι' v H', Ext K ι n H ι' M.length H' → Rl K ct ι' M H' → DV K ct ι' M.length H' d v → T.rt v H'
  | .brk e M => ∀ ι' σ' H', Ext K ι n H ι' M.length H' → Ws K ct ι' e M σ' H' → T.bk σ' H'
  | .cont e M => ∀ ι' σ' H', Ext K ι n H ι' M.length H' → Ws K ct ι' e M σ' H' → T.ct σ' H'
  | .exc c d e M => ∀ ι' σ' dx v H', Ext K ι n H ι' M.length H' → Ws K ct ι' e M σ' H' → H' dx = some (.xd [("at", v)]) → DV K ct ι' M.length H' d v → W (ct c) dx σ' H'
  | .bad => False
def tS (K : PySem.W.Frag) (ct : Nat → Addr) (W : XWish) (m : MS) : TS := fun T σ H => ∃ ι e M, Ws K ct ι e M σ H ∧ PostS K ct W ι M.length H (m e M) T
def SS (X : Cx) (ct : Nat → Addr) (W : XWish) (st : Stmt) (m : MS) : Prop := PS X st (tS X.K ct W m)
def SSs (X : Cx) (ct : Nat → Addr) (W : XWish) (st : List Stmt) (m : MS) : Prop := PSs X st (tS X.K ct W m)
theorem PostS.ext {K : PySem.W.Frag} {ct ι ι' : Nat → Addr} {W : XWish} {n n' : Nat} {H H' : Hp} {o : SOut} {T : Ends} (h : PostS K ct W ι n H o T) (x : Ext K ι n H ι' n' H') : PostS K ct W ι' n' H' o T := by
  cases o with
  | next e M => exact fun ι2 b H2 x2 w => h ι2 b H2 (x.trans x2) w
  | ret d M => exact fun ι2 b H2 x2 r q => h ι2 b H2 (x.trans x2) r q
  | brk e M => exact fun ι2 b H2 x2 w => h ι2 b H2 (x.trans x2) w
  | cont e M => exact fun ι2 b H2 x2 w => h ι2 b H2 (x.trans x2) w
  | exc c d e M => exact fun ι2 b dx v H2 x2 w q1 q2 => h ι2 b dx v H2 (x.trans x2) w q1 q2
  | bad => exact h
def ofE {α : Type} (e : Sl) (o : Out α) (f : α → Mem → SOut) : SOut := match o with
  | .ok a M => f a M
  | .exc c d M => .exc c d e M
  | .bad => .bad
@[simp] theorem ofE_ok {α : Type} (e : Sl) (a : α) (M : Mem) (f : α → Mem → SOut) : ofE e (.ok a M) f = f a M := id rfl
@[simp] theorem ofE_exc {α : Type} (e : Sl) (c : Nat) (d : D) (M : Mem) (f : α → Mem → SOut) : ofE e (.exc c d M : Out α) f = .exc c d e M := id rfl
@[simp] theorem ofE_bad {α : Type} (e : Sl) (f : α → Mem → SOut) : ofE e (.bad : Out α) f = .bad := id rfl
theorem tS_bind {α β : Type} {rel : (Nat → Addr) → Mem → Hp → α → β → Prop} {K : PySem.W.Frag} {ct : Nat → Addr} {W : XWish} {m : Sl → Mem → Out α} {f : α → Sl → Mem → SOut} {σ : St} {H : Hp} {T : Ends}
    (h : tS K ct W (fun e M => ofE e (m e M) fun a M1 => f a e M1) T σ H) : tG rel K ct W m σ H (fun b H1 => ∃ ι e M a, Ws K ct ι e M σ H1 ∧ rel ι M H1 a b ∧ PostS K ct W ι M.length H1 (f a e M) T) := by
  obtain ⟨ι, e, M, w, p⟩ := h
  refine ⟨ι, e, M, w, ?_⟩
  cases z : m e M with
  | bad => simp only [z, ofE_bad] at p; exact p
  | exc xc xd xM => simp only [z, ofE_exc] at p; exact fun ι1 dx v H1 x r q1 q2 => p ι1 σ dx v H1 x (w.ext x r) q1 q2
  | ok a M1 =>
    simp only [z, ofE_ok] at p
    exact fun ι1 b H1 x r q => ⟨ι1, e, M1, a, w.ext x r, q, p.ext x⟩
section
variable {X : Cx} {ct : Nat → Addr} {W : XWish} {st : Stmt} {rest : List Stmt} {s t : MS} {a : Expr} {ma : ME} {pos : Pos}
theorem PS.imp {st : Stmt} {t t' : TS} (h : PS X st t) (hi : ∀ T σ H, t' T σ H → t T σ H) : PS X st t' := fun pins s σ H T I q => h pins s σ H T I (hi T σ H q)
theorem PSs.imp {st : List Stmt} {t t' : TS} (h : PSs X st t) (hi : ∀ T σ H, t' T σ H → t T σ H) : PSs X st t' := fun pins s σ H T I q => h pins s σ H T I (hi T σ H q)
def sNext : MS := fun e M => .next e M
def sSeq (s t : MS) : MS := fun e M => match s e M with
  | .next e' M' => t e' M'
  | o => o
theorem tNext_of {T : Ends} {σ : St} {H : Hp} (h : tS X.K ct W sNext T σ H) : tNext T σ H := let ⟨ι, _, _, w, p⟩ := h; p ι σ H .refl w
theorem ss_nil : SSs X ct W [] sNext := PSs.imp pss_nil fun T σ H q => tNext_of q
theorem ss_cons (h1 : SS X ct W st s) (h2 : SSs X ct W rest t) : SSs X ct W (st :: rest) (sSeq s t) := PSs.imp (pss_cons h1 h2) fun T σ H ⟨ι, e, M, w, p⟩ => by
  refine ⟨ι, e, M, w, ?_⟩
  unfold sSeq at p
  cases z : s e M with
  | next e' M' => rw [z] at p; exact fun ι' σ' H' x w' => ⟨ι', e', M', w', p.ext x⟩
  | ret d M' => rw [z] at p; exact p
  | brk d M' => rw [z] at p; exact p
  | cont d M' => rw [z] at p; exact p
  | exc c d e M' => rw [z] at p; exact p
  | bad => rw [z] at p; exact p
theorem ss_one (h1 : SS X ct W st s) : SSs X ct W [st] s := pss_one h1
def sBrk : MS := fun e M => .brk e M
def sCont : MS := fun e M => .cont e M
def sExpr (m : ME) : MS := fun e M => ofE e (m e M) fun _ M1 => .next e M1
theorem ss_expr (he : SE X ct W a ma) (hs : swapsWith a none pos.line X.env = pure false := by rfl) : SS X ct W (.Expr a pos) (sExpr ma) := PS.imp (ps_expr he hs) fun T σ H q => by
  obtain ⟨ι, e, M, w, p⟩ := tS_bind (rel := relD X.K ct) (f := fun _ e M1 => .next e M1) q
  exact ⟨ι, e, M, w, p.mono fun v H1 ⟨ι1, e1, M1, d, w1, q1, p1⟩ => p1 ι1 σ H1 .refl w1⟩
def sRet (m : ME) : MS := fun e M => ofE e (m e M) fun d M1 => .ret d M1
theorem ss_ret (he : SE X ct W a ma) : SS X ct W (.Return (some a) pos) (sRet ma) := PS.imp (ps_ret he) fun T σ H q => by
  obtain ⟨ι, e, M, w, p⟩ := tS_bind (rel := relD X.K ct) (f := fun d e M1 => .ret d M1) q
  exact ⟨ι, e, M, w, p.mono fun v H1 ⟨ι1, e1, M1, d, w1, q1, p1⟩ => p1 ι1 v H1 .refl w1.rl q1⟩
def sRetN : MS := fun _ M => .ret .non M
def sIf (c : MT) (s t : MS) : MS := fun e M => ofE e (c e M) fun k M1 => if k = true then s e M1 else t e M1
theorem ss_if {c : Expr} {b b' : List Stmt} {mc : MT} (hc : STt X ct W c mc) (ha : SSs X ct W b s) (hb : SSs X ct W b' t) : SS X ct W (.If c b b' pos) (sIf mc s t) := PS.imp (ps_if hc ha hb) fun T σ H q => by
  obtain ⟨ι, e, M, w, p⟩ := tS_bind (rel := relB) (f := fun k e M1 => if k = true then s e M1 else t e M1) q
  refine ⟨ι, e, M, w, p.mono fun k H1 ⟨ι1, e1, M1, d, w1, q1, p1⟩ => ?_⟩
  have hEq : d = k := q1; subst hEq
  cases d with
  | true => exact ⟨ι1, e1, M1, w1, p1⟩
  | false => exact ⟨ι1, e1, M1, w1, p1⟩
abbrev Tg := D → Sl → Option Sl
abbrev Tgs := List D → Sl → Option Sl
def PostT (K : PySem.W.Frag) (ct ι : Nat → Addr) (M : Mem) (H : Hp) (o : Option Sl) (Q : St → Hp → Prop) : Prop := match o with
  | some e' => ∀ σ', Ws K ct ι e' M σ' H → Q σ' H
  | none => False
def tT (K : PySem.W.Frag) (ct : Nat → Addr) (g : Tg) : TG := fun v σ H Q => ∃ ι e M d, Ws K ct ι e M σ H ∧ DV K ct ι M.length H d v ∧ PostT K ct ι M H (g d e) Q
def tTs (K : PySem.W.Frag) (ct : Nat → Addr) (g : Tgs) : TGs := fun vs σ H Q => ∃ ι e M ds, Ws K ct ι e M σ H ∧ DVs K ct ι M.length H ds vs ∧ PostT K ct ι M H (g ds e) Q
def SG (X : Cx) (ct : Nat → Addr) (tg : Expr) (g : Tg) : Prop := PG X tg (tT X.K ct g)
def SGs (X : Cx) (ct : Nat → Addr) (tg : List Expr) (g : Tgs) : Prop := PGs X tg (tTs X.K ct g)
theorem PG.imp {tg : Expr} {t t' : TG} (h : PG X tg t) (hi : ∀ v σ H Q, t' v σ H Q → t v σ H Q) : PG X tg t' := fun pins s σ H v u Q I r q => h pins s σ H v u Q I r (hi v σ H Q q)
theorem PGs.imp {tg : List Expr} {t t' : TGs} (h : PGs X tg t) (hi : ∀ v σ H Q, t' v σ H Q → t v σ H Q) : PGs X tg t' := fun pins s σ H v u Q I r q => h pins s σ H v u Q I r (hi v σ H Q q)
def gN (i : Nat) : Tg := fun d e => some (e.set i (some d))
theorem sg_name {i : Nat} {x : Str} (hN : X.N.Nodup) (hi : X.N[i]? = some x) (hx : Loc X.env.scope x) (hf : X.fn x = true ∨ X.env.scope.names.lookup x = some .local := by first | exact .inl rfl | exact .inr rfl | assumption) : SG X ct (.Name x pos) (gN i) :=
  PG.imp (pg_name hN hi hx hf) fun v σ H Q ⟨ι, e, M, d, w, q, p⟩ => p _ (w.set i q)
def gNil' : Tgs := fun ds e => match ds with
  | [] => some e
  | _ => none
def gCons' (g : Tg) (gs : Tgs) : Tgs := fun ds e => match ds with
  | d :: r => (g d e).bind fun e' => gs r e'
  | [] => none
theorem sgs_nil : SGs X ct [] gNil' := PGs.imp pgs_nil fun vs σ H Q ⟨ι, e, M, ds, w, q, p⟩ => by
  cases q with
  | nil => exact ⟨rfl, p σ w⟩
  | cons _ _ => exact p.elim
theorem sgs_cons {es : List Expr} {g : Tg} {gs : Tgs} (h1 : SG X ct a g) (h2 : SGs X ct es gs)
    (hs : (assignEach (a :: es) X.env).map (·.2) = assign a X.env :: (assignEach es X.env).map (·.2) := by rfl) : SGs X ct (a :: es) (gCons' g gs) := PGs.imp (pgs_cons h1 h2 hs) fun vs σ H Q ⟨ι, e, M, ds, w, q, p⟩ => by
  cases q with
  | nil => exact p.elim
  | @cons d x ds xs h hs =>
    refine ⟨x, xs, rfl, ι, e, M, d, w, h, ?_⟩
    simp only [gCons'] at p
    cases z : g d e with
    | none => rw [z] at p; exact p.elim
    | some e' => rw [z] at p; exact fun σ' w' => ⟨ι, e', M, ds, w', hs, p⟩
def gT (n : Nat) (gs : Tgs) : Tg := fun d e => match d with
  | .tup ds => if ds.length = n then gs ds e else none
  | _ => none
theorem sg_tup {es : List Expr} {k : Nat} {gs : Tgs} {n : Nat} (hc : X.calm = true) (h : SGs X ct es gs)
    (hn : (assignEach es X.env).length = n := by rfl) (hst : (assignEach es X.env).findIdx? (·.1) = none := by rfl) : SG X ct (.Tuple es k pos) (gT n gs) := PG.imp (pg_tup hc h hn hst) fun v σ H Q ⟨ι, e, M, d, w, q, p⟩ => by
  cases q with
  | @tup a xs ds hs hd =>
    simp only [gT] at p
    split at p
    · rename_i hl
      exact ⟨a, xs, rfl, SqT.of hs, by rw [hd.length]; exact hl, ι, e, M, ds, w, hd, p⟩
    · exact p.elim
  | _ => exact p.elim
def sAsg (m : ME) (g : Tg) : MS := fun e M => ofE e (m e M) fun d M1 => match g d e with
  | some e' => .next e' M1
  | none => .bad
theorem tAsg_of {te : TE} {tg : TG} {m : ME} {g : Tg} {T : Ends} {σ : St} {H : Hp} (he : ∀ Q, tG (relD X.K ct) X.K ct W m σ H Q → te σ H Q) (hg : ∀ v H Q, tT X.K ct g v σ H Q → tg v σ H Q) (h : tS X.K ct W (sAsg m g) T σ H) : tAsg te tg T σ H := by
  refine he _ ?_
  obtain ⟨ι, e, M, w, p⟩ := tS_bind (rel := relD X.K ct) (f := fun d e M1 => match g d e with
    | some e' => .next e' M1
    | none => .bad) h
  refine ⟨ι, e, M, w, p.mono fun v H1 ⟨ι1, e1, M1, d, w1, q1, p1⟩ => hg _ _ _ ⟨ι1, e1, M1, d, w1, q1, ?_⟩⟩
  cases z : g d e1 with
  | none => rw [z] at p1; exact p1
  | some e' => rw [z] at p1; exact fun σ' w' => p1 ι1 σ' H1 .refl w'
theorem ss_set {i : Nat} {x : Str} {pos' : Pos} (hN : X.N.Nodup) (hi : X.N[i]? = some x) (hx : Loc X.env.scope x) (he : SE X ct W a ma) (hs : swapsWith a (some (.Name x pos')) pos.line X.env = pure false := by rfl) (hf : X.fn x = true ∨ X.env.scope.names.lookup x = some .local := by first | exact .inl rfl | exact .inr rfl | assumption) :
    SS X ct W (.Assign [.Name x pos'] a pos) (sAsg ma (gN i)) := PS.imp (ps_set hN hi hx he hs hf) fun T σ H q => tAsg_of (fun _ q => q) (fun v H Q ⟨ι, e, M, d, w, q, p⟩ => p _ (w.set i q)) q
def putF' (cs : List Nat) (f : Str) (d : D) (o : D) (M : Mem) : Option Mem := match o with
  | .ref n => match M[n]? with
    | some (.ins c fs) => if c ∈ cs ∧ fs.length < 1000 then some (M.set n (.ins c (putD f d fs))) else none
    | _ => none
  | _ => none
def sFldS (cs : List Nat) (mo mv : ME) (f : Str) : MS := fun e M => ofE e (mv e M) fun d M1 => ofE e (mo e M1) fun o M2 => match putF' cs f d o M2 with
  | some M3 => .next e M3
  | none => .bad
theorem FVs.put {K : PySem.W.Frag} {ι : Nat → Addr} {n : Nat} {H : Hp} {f : Str} {d : D} {v : V} (h : DV K ct ι n H d v) : ∀ {fs : List (Str × D)} {vs : List (Str × V)}, FVs K ct ι n H fs vs → FVs K ct ι n H (putD f d fs) (putF f v vs)
  | _, _, .nil => .cons h .nil
  | _, _, .cons (x := x) h' hs => by
    unfold putD putF
    by_cases e : x = f
    · rw [if_pos e, if_pos e]; exact .cons h hs
    · rw [if_neg e, if_neg e]; exact .cons h' (hs.put h)
theorem ss_fld {o : Expr} {mo : ME} {cs : List Nat} {f : Str} {pos' : Pos} (hc : FldAll X.K ct f cs) (ho : SE X ct W o mo) (hv : SE X ct W a ma) (hs : swapsWith a (some (.Attribute o f pos')) pos.line X.env = pure false := by rfl) :
    SS X ct W (.Assign [.Attribute o f pos'] a pos) (sFldS cs mo ma f) := PS.imp (ps_fld ho hv hs) fun T σ H q => by
  obtain ⟨ι, e, M, w, p⟩ := tS_bind (rel := relD X.K ct) (f := fun d e M1 => ofE e (mo e M1) fun o M2 => match putF' cs f d o M2 with
    | some M3 => .next e M3
    | none => .bad) q
  refine ⟨ι, e, M, w, p.mono fun y H1 ⟨ι1, e1, M1, d, w1, q1, p1⟩ => ⟨ι1, e1, M1, w1, ?_⟩⟩
  cases z : mo e1 M1 with
  | bad => simp only [z, ofE_bad] at p1; exact p1
  | exc xc xd xM => simp only [z, ofE_exc] at p1; exact fun ι2 dx v H2 x r q1 q2 => p1 ι2 σ dx v H2 x (w1.ext x r) q1 q2
  | ok o' M2 =>
    simp only [z, ofE_ok] at p1
    intro ι2 x H2 x2 r2 q2
    have p2 := p1.ext x2
    have w2 := w1.ext x2 r2
    have qd := q1.mono x2
    cases q2 with
    | @ref n hn =>
      simp only [putF'] at p2
      cases z0 : M2[n]? with
      | none => rw [z0] at p2; exact p2.elim
      | some ob =>
        cases ob with
        | lst _ => rw [z0] at p2; exact p2.elim
        | dk _ => rw [z0] at p2; exact p2.elim
        | dt _ => rw [z0] at p2; exact p2.elim
        | ins c fs =>
          simp only [z0] at p2
          by_cases hcs : c ∈ cs ∧ fs.length < 1000
          · rw [if_pos hcs] at p2
            obtain ⟨dx, vs, hH, fv⟩ := r2.obj n _ z0
            have x3 : Ext X.K ι2 M2.length H2 ι2 M2.length (upd H2 (ι2 n) (.ins (ct c) dx (putF f y vs))) := Ext.chg hH (fun _ z => nomatch z) (fun _ _ z => nomatch z)
            refine ⟨_, _, dx, vs, rfl, hH, (hc.get hcs.1).1, (hc.get hcs.1).2, by rw [fv.length]; exact hcs.2, ?_⟩
            have r3 := r2.chg (o := .ins (ct c) dx (putF f y vs)) (x := .ins c (putD f d fs)) hn hH (fun _ z => nomatch z) (fun _ _ z => nomatch z) ⟨dx, _, upd_same, (fv.put qd).mono x3⟩
            have x3' : Ext X.K ι2 M2.length H2 ι2 (M2.set n (.ins c (putD f d fs))).length (upd H2 (ι2 n) (.ins (ct c) dx (putF f y vs))) := by rw [List.length_set]; exact x3
            exact p2 ι2 σ _ x3' (w2.ext x3' r3)
          · rw [if_neg hcs] at p2
            exact p2.elim
    | _ => exact p2.elim
structure Itm where
  src : Option (Nat × List D)
  ds : List D
def SrcOk (s : Option (Nat × List D)) (M : Mem) : Prop := match s with
  | none => True
  | some (n, ds) => lstOf M n = some ds
noncomputable instance {s : Option (Nat × List D)} {M : Mem} : Decidable (SrcOk s M) := Classical.propDecidable _
def relI (K : PySem.W.Frag) (ct : Nat → Addr) : (Nat → Addr) → Mem → Hp → Itm → It → Prop := fun ι M H it J => SrcOk it.src M ∧ it.ds.length ≤ sizeLine ∧ ∀ ι' M' H', Ext K ι M.length H ι' M'.length H' → Rl K ct ι' M' H' → SrcOk it.src M' →
  ∀ i, (∀ d, it.ds[i]? = some d → J.go i H' ∧ ∀ x H2, J.yld i H' x H2 → Ext K ι' M'.length H' ι' M'.length H2 ∧ Rl K ct ι' M' H2 ∧ DV K ct ι' M'.length H2 d x) ∧ (it.ds.length ≤ i → J.stop i H')
abbrev MI := Sl → Mem → Out Itm
def SI (X : Cx) (ct : Nat → Addr) (W : XWish) (tg e : Expr) (m : MI) : Prop := PI X tg e (tG (relI X.K ct) X.K ct W m)
theorem PI.imp {tg e : Expr} {t t' : TI} (h : PI X tg e t) (hi : ∀ σ H R, t' σ H R → t σ H R) : PI X tg e t' := fun pins s σ H R I q => h pins s σ H R I (hi σ H R q)
noncomputable def forGo (src : Option (Nat × List D)) (g : Tg) (b : MS) : List D → Sl → Mem → SOut
  | [], e, M => if SrcOk src M then .next e M else .bad
  | d :: ds, e, M => if SrcOk src M then (match g d e with
      | none => .bad
      | some e1 => match b e1 M with
        | .next e2 M2 => forGo src g b ds e2 M2
        | .cont e2 M2 => forGo src g b ds e2 M2
        | .brk e2 M2 => .next e2 M2
        | .ret d M2 => .ret d M2
        | .exc c d e2 M2 => .exc c d e2 M2
        | .bad => .bad) else .bad
noncomputable def sFor (mi : MI) (g : Tg) (b : MS) : MS := fun e M => ofE e (mi e M) fun it M1 => forGo it.src g b it.ds e M1
theorem ss_for {tg iter : Expr} {body : List Stmt} {mi : MI} {g : Tg} {b : MS} (hp : X.Ok → PassesOwn (model X.prog X.w) X.A X.env X.xe) (hc : X.calm = true) (hi : SI X ct W tg iter mi) (hg : SG X ct tg g) (hb : SSs X ct W body b)
    (hs : ∀ x, foldedSetIterable iter X.env x = pure x := by intro _; rfl) : SS X ct W (.For tg iter body [] pos) (sFor mi g b) := PS.imp (fun pins s σ H D I h => ps_forN (hp I.ok) hc hi hg hb hs pins s σ H D I h) fun T σ H q => by
  obtain ⟨ι, e, M, w, p⟩ := tS_bind (rel := relI X.K ct) (f := fun it e M1 => forGo it.src g b it.ds e M1) q
  refine ⟨ι, e, M, w, p.mono fun J H1 ⟨ι1, e1, M1, it, w1, q1, p1⟩ => ?_⟩
  obtain ⟨ok1, _, step⟩ := q1
  refine ⟨fun i m σ' H' => m = it.ds.length - i ∧ i ≤ it.ds.length ∧ ∃ ι' e' M', Ext X.K ι1 M1.length H1 ι' M'.length H' ∧ Ws X.K ct ι' e' M' σ' H' ∧ PostS X.K ct W ι' M'.length H' (forGo it.src g b (it.ds.drop i) e' M') T,
    ⟨it.ds.length, by simp, Nat.zero_le _, ι1, e1, M1, .refl, w1, by simpa using p1⟩, ?_⟩
  rintro i m σ' H' ⟨rfl, hi, ι', e', M', x', w', p'⟩
  by_cases hlt : i < it.ds.length
  · rw [List.drop_eq_getElem_cons hlt] at p'
    unfold forGo at p'
    by_cases ok' : SrcOk it.src M'
    · rw [if_pos ok'] at p'
      obtain ⟨go, yl⟩ := (step ι' M' H' x' w'.rl ok' i).1 _ (List.getElem?_eq_getElem hlt)
      refine .inr ⟨go, fun σ2 H2 => ∃ ι2 e2 M2, Ext X.K ι1 M1.length H1 ι2 M2.length H2 ∧ Ws X.K ct ι2 e2 M2 σ2 H2 ∧ PostS X.K ct W ι2 M2.length H2 (forGo it.src g b (it.ds.drop (i + 1)) e2 M2) T, ?_, ?_⟩
      · rintro σ2 H2 ⟨ι2, e2, M2, x2, w2, p2⟩
        exact ⟨it.ds.length - (i + 1), by omega, rfl, hlt, ι2, e2, M2, x2, w2, p2⟩
      · intro x H2 y
        obtain ⟨x2, r2, dv⟩ := yl x H2 y
        have w2 := w'.ext x2 r2
        have p2 := p'.ext x2
        refine ⟨ι', e', M', _, w2, dv, ?_⟩
        cases z : g it.ds[i] e' with
        | none => rw [z] at p2; exact p2
        | some e2 =>
          rw [z] at p2
          intro σ3 w3
          refine ⟨ι', e2, M', w3, ?_⟩
          cases z3 : b e2 M' with
          | next e4 M4 => simp only [z3] at p2; exact fun ι5 σ5 H5 x5 w5 => ⟨ι5, e4, M4, (x'.trans x2).trans x5, w5, p2.ext x5⟩
          | cont e4 M4 => simp only [z3] at p2; exact fun ι5 σ5 H5 x5 w5 => ⟨ι5, e4, M4, (x'.trans x2).trans x5, w5, p2.ext x5⟩
          | brk e4 M4 => simp only [z3] at p2; exact p2
          | ret d M4 => simp only [z3] at p2; exact p2
          | exc xc xd xe xM => simp only [z3] at p2; exact p2
          | bad => simp only [z3] at p2; exact p2
    · rw [if_neg ok'] at p'
      exact p'.elim
  · have e0 : i = it.ds.length := by omega
    subst e0
    rw [List.drop_length] at p'
    unfold forGo at p'
    by_cases ok' : SrcOk it.src M'
    · rw [if_pos ok'] at p'
      exact .inl ⟨(step ι' M' H' x' w'.rl ok' _).2 (Nat.le_refl _), p' ι' σ' H' .refl w'⟩
    · rw [if_neg ok'] at p'
      exact p'.elim
def itOf (d : D) (M1 : Mem) : Out Itm := match d with
  | .ref n => match lstOf M1 n with
    | some ds => .ok ⟨some (n, ds), ds⟩ M1
    | none => .bad
  | .cl ds => .ok ⟨none, ds⟩ M1
  | .tup ds => .ok ⟨none, ds⟩ M1
  | _ => .bad
def mIter (m : ME) : MI := fun e M => (m e M).bind itOf
theorem pi_seq {tg l : Expr} {tl : TE} (hl : PE X l tl) : PI X tg l (fun σ H R => tl σ H fun x H1 => ∃ a, x = .ref a ∧ (((∃ xs, SqL X.K H1 a xs) ∧ ((∀ xs, SqL X.K H1 a xs → xs.length ≤ sizeLine) → R (Itl X.K a) H1)) ∨ ((∃ xs, SqT X.K H1 a xs) ∧ ((∀ xs, SqT X.K H1 a xs → xs.length ≤ sizeLine) → R (Itt X.K a) H1)))) := by
  intro pins s σ H R I h
  refine thn (hl pins s σ H _ I h) fun v s1 ⟨x, H1, I1, r1, q1⟩ => ?_
  obtain ⟨a, e, q⟩ := q1
  subst e
  cases r1
  rcases q with ⟨⟨xs, hq⟩, q⟩ | ⟨⟨xs, hq⟩, q⟩
  · obtain ⟨its, rv, p, hz⟩ := I1.list hq
    have q := q fun ys hy => by obtain ⟨_, _, _, hz⟩ := I1.list hy; exact hz
    refine wpAny_pyIter_list p.isList ?_
    refine ⟨s1.heap.objs.size, [s1.heap.objs.size], _, _, H1, rfl, I1.kept (t' := s1.toks) fun b o e => Heap.get?_push_of_some _ e, turn_list a _, ⟨_, Heap.get?_push_size _ rfl, rfl, rfl⟩, fun b hb => ?_, q⟩
    have e : b = s1.heap.objs.size := by simpa using hb
    subst e
    exact I1.fpOk (Nat.le_refl _) (I1.hok.fresh (Nat.le_refl _))
  · obtain ⟨its, rv, p, hz⟩ := I1.tuple hq
    have q := q fun ys hy => by obtain ⟨_, _, _, hz⟩ := I1.tuple hy; exact hz
    refine wpAny_pyIter_tuple (show s1.heap.IsTuple a its.toArray from p) ?_
    refine ⟨s1.heap.objs.size, [s1.heap.objs.size], _, _, H1, rfl, I1.kept (t' := s1.toks) fun b o e => Heap.get?_push_of_some _ e, turn_tuple a _, ⟨_, Heap.get?_push_size _ rfl, rfl, rfl⟩, fun b hb => ?_, q⟩
    have e : b = s1.heap.objs.size := by simpa using hb
    subst e
    exact I1.fpOk (Nat.le_refl _) (I1.hok.fresh (Nat.le_refl _))
theorem itl_step {K : PySem.W.Frag} {ι : Nat → Addr} {M : Mem} {H : Hp} {a : Addr} {xs : List V} {ds : List D} (R : Rl K ct ι M H) (hq : SqL K H a xs) (hd : DVs K ct ι M.length H ds xs) (i : Nat) :
    (∀ d, ds[i]? = some d → (Itl K a).go i H ∧ ∀ x H2, (Itl K a).yld i H x H2 → Ext K ι M.length H ι M.length H2 ∧ Rl K ct ι M H2 ∧ DV K ct ι M.length H2 d x) ∧ (ds.length ≤ i → (Itl K a).stop i H) := by
  refine ⟨fun d e => ?_, fun h => ⟨xs, hq, by rw [hd.length]; exact h⟩⟩
  obtain ⟨v, hv, dv⟩ := hd.at e
  refine ⟨⟨xs, v, hq, hv⟩, fun x H2 y => ?_⟩
  obtain ⟨e2, y⟩ := y
  subst e2
  have z := y xs hq
  rw [hv] at z
  cases z
  exact ⟨.refl, R, dv⟩
theorem itt_step {K : PySem.W.Frag} {ι : Nat → Addr} {M : Mem} {H : Hp} {a : Addr} {xs : List V} {ds : List D} (R : Rl K ct ι M H) (hq : SqT K H a xs) (hd : DVs K ct ι M.length H ds xs) (i : Nat) :
    (∀ d, ds[i]? = some d → (Itt K a).go i H ∧ ∀ x H2, (Itt K a).yld i H x H2 → Ext K ι M.length H ι M.length H2 ∧ Rl K ct ι M H2 ∧ DV K ct ι M.length H2 d x) ∧ (ds.length ≤ i → (Itt K a).stop i H) := by
  refine ⟨fun d e => ?_, fun h => ⟨xs, hq, by rw [hd.length]; exact h⟩⟩
  obtain ⟨v, hv, dv⟩ := hd.at e
  refine ⟨⟨xs, v, hq, hv⟩, fun x H2 y => ?_⟩
  obtain ⟨e2, y⟩ := y
  subst e2
  have z := y xs hq
  rw [hv] at z
  cases z
  exact ⟨.refl, R, dv⟩
theorem si_seq {tg : Expr} (hl : SE X ct W a ma) : SI X ct W tg a (mIter ma) := PI.imp (pi_seq hl) fun σ H R q => by
  obtain ⟨ι, e, M, w, p⟩ := tG_bind (relα := relD X.K ct) (f := fun d _ M1 => itOf d M1) q
  refine ⟨ι, e, M, w, p.mono fun v H1 ⟨ι1, e1, M1, d, w1, q1, p1⟩ => ?_⟩
  cases q1 with
  | @ref n hn =>
    dsimp only [itOf] at p1
    cases z : lstOf M1 n with
    | none => rw [z] at p1; exact p1.elim
    | some ds =>
      rw [z] at p1
      obtain ⟨xs, hH, hd⟩ := w1.rl.obj n _ (lstOf_iff.mp z)
      refine ⟨_, rfl, .inl ⟨⟨xs, SqL.of hH⟩, fun hz => p1 ι1 _ H1 .refl w1.rl ⟨z, by rw [← hd.length]; exact hz xs (SqL.of hH), fun ι2 M2 H2 x2 r2 ok2 i => ?_⟩⟩⟩
      obtain ⟨xs2, hH2, hd2⟩ := r2.obj n _ (lstOf_iff.mp ok2)
      rw [← x2.same n hn]
      exact itl_step r2 (SqL.of hH2) hd2 i
  | cl h1 h2 => exact ⟨_, rfl, .inl ⟨⟨_, h1.sq⟩, fun hz => p1 ι1 _ H1 .refl w1.rl ⟨trivial, by rw [← h2.length]; exact hz _ h1.sq, fun ι2 M2 H2 x2 r2 ok2 i => itl_step r2 (x2.frz _ _ h1).sq (h2.mono x2) i⟩⟩⟩
  | tup h1 h2 => exact ⟨_, rfl, .inr ⟨⟨_, SqT.of h1⟩, fun hz => p1 ι1 _ H1 .refl w1.rl ⟨trivial, by rw [← h2.length]; exact hz _ (SqT.of h1), fun ι2 M2 H2 x2 r2 ok2 i => itt_step r2 (SqT.of (x2.tup _ _ h1)) (h2.mono x2) i⟩⟩⟩
  | _ => exact p1.elim
def rng (lo : Int) (n : Nat) : List D := (List.range n).map fun (k : Nat) => D.int (lo + k)
def rng1 (ds : List D) (M1 : Mem) : Out Itm := match ds with
  | [.int j] => if -(2 ^ 62) ≤ j ∧ j < 2 ^ 24 then .ok ⟨none, rng 0 j.toNat⟩ M1 else .bad
  | _ => .bad
def mRng1 (ms : MA) : MI := fun e M => (ms e M).bind rng1
def rng2 (ds : List D) (M1 : Mem) : Out Itm := match ds with
  | [.int i, .int j] => if -(2 ^ 62) ≤ i ∧ i < 2 ^ 62 ∧ -(2 ^ 62) ≤ j ∧ j < 2 ^ 62 ∧ j - i ≤ 2 ^ 24 then .ok ⟨none, rng i (j - i).toNat⟩ M1 else .bad
  | _ => .bad
def mRng2 (ms : MA) : MI := fun e M => (ms e M).bind rng2
theorem itr_step {K : PySem.W.Frag} {ι : Nat → Addr} {M : Mem} {H : Hp} (R : Rl K ct ι M H) (lo : Int) (n i : Nat) :
    (∀ d, (rng lo n)[i]? = some d → (Itr lo n).go i H ∧ ∀ x H2, (Itr lo n).yld i H x H2 → Ext K ι M.length H ι M.length H2 ∧ Rl K ct ι M H2 ∧ DV K ct ι M.length H2 d x) ∧ ((rng lo n).length ≤ i → (Itr lo n).stop i H) := by
  refine ⟨fun d e => ?_, fun h => (by simpa [rng] using h : n ≤ i)⟩
  unfold rng at e
  rw [List.getElem?_map] at e
  obtain ⟨k, hk, rfl⟩ := Option.map_eq_some_iff.mp e
  obtain ⟨hi, e2⟩ := List.getElem?_eq_some_iff.mp hk
  have hi' : i < n := by simpa using hi
  have ek : k = i := by rw [← e2]; simp
  subst ek
  refine ⟨hi', fun x H2 y => ?_⟩
  obtain ⟨e3, y⟩ := y
  subst e3 y
  exact ⟨.refl, R, .int _⟩
theorem line24 : (2 ^ 24 : Nat) ≤ sizeLine := by rw [sizeLine_eq]; decide
theorem si_range1 {tg a : Expr} {ms : MA} {p pos : Pos} (hg : Gl X "range") (hm : X.mg "range" = none) (ha : SA X ct W [a] ms) (hs : starEach [a] X.env = [(false, eval a X.env)] := by rfl) : SI X ct W tg (.Call (.Name "range" p) [a] [] pos) (mRng1 ms) := PI.imp (pi_range1 hg hm ha hs) fun σ H R q => by
  obtain ⟨ι, e, M, w, p⟩ := tG_bind (relα := relA X.K ct) (f := fun ds _ M1 => rng1 ds M1) q
  refine ⟨ι, e, M, w, p.mono fun v H1 ⟨ι1, e1, M1, d, w1, q1, p1⟩ => ?_⟩
  dsimp only [rng1] at p1
  split at p1
  · rename_i j
    obtain ⟨v, rfl, q2⟩ := dvs1 q1
    cases dv_int q2
    split at p1
    · rename_i hj
      have hz := line24
      exact ⟨j, rfl, hj.1, by omega, p1 ι1 _ H1 .refl w1.rl ⟨trivial, by simp [rng]; omega, fun ι2 M2 H2 x2 r2 ok2 i => itr_step r2 0 _ i⟩⟩
    · exact p1.elim
  · exact p1.elim
open Classical in
def capE (js : List Nat) (e : Sl) : Sl := js.map fun i => (e[i]?).join
def Out.noX {α : Type} (o : Out α) : Out α := match o with
  | .ok a M => .ok a M
  | _ => .bad
@[simp] theorem noX_ok {α : Type} (a : α) (M : Mem) : (Out.ok a M).noX = .ok a M := id rfl
@[simp] theorem noX_bad {α : Type} : (Out.bad : Out α).noX = .bad := id rfl
@[simp] theorem noX_exc {α : Type} (c : Nat) (d : D) (M : Mem) : (Out.exc c d M : Out α).noX = .bad := id rfl
noncomputable def cpGo (src : Option (Nat × List D)) (tt : MT) (te : ME) (ce : Sl) : List D → List D → Mem → Out D
  | [], ys, M => if SrcOk src M then .ok (.ref M.length) (M ++ [.lst ys]) else .bad
  | d :: ds, ys, M => if SrcOk src M then (tt (some d :: ce) M).noX.bind fun k M1 => if k = true then (te (some d :: ce) M1).noX.bind fun y M2 => cpGo src tt te ce ds (ys ++ [y]) M2 else cpGo src tt te ce ds ys M1 else .bad
noncomputable def mComp (js : List Nat) (mi : MI) (tt : MT) (te : ME) : ME := fun e M => (mi e M).bind fun it M1 => cpGo it.src tt te (capE js e) it.ds [] M1
def STs (X : Cx) (ct : Nat → Addr) (W : XWish) (ifs : List Expr) (m : MT) : Prop := PTs X ifs (tG relB X.K ct W m)
def mAll : MT := fun _ M => .ok true M
theorem sts_nil : STs X ct W [] mAll := fun pins s σ H Q I ⟨ι, e, M, w, p⟩ => pts_nil pins s σ H Q I (p ι true H .refl w.rl rfl)
theorem sts_one {c : Expr} {m : MT} (h : STt X ct W c m) : STs X ct W [c] m := pts_one h
theorem Ws.caps {K : PySem.W.Frag} {ι : Nat → Addr} {e : Sl} {M : Mem} {σ : St} {H : Hp} {d : D} {v : V} (w : Ws K ct ι e M σ H) (js : List Nat) (h : DV K ct ι M.length H d v) : Ws K ct ι (some d :: capE js e) M (some v :: L2.caps js σ) H := by
  refine ⟨w.rl, by simp [capE, L2.caps], fun i x hx => ?_⟩
  cases i with
  | zero => simp at hx; subst hx; exact ⟨v, rfl, h⟩
  | succ i =>
    simp only [List.getElem?_cons_succ, capE, List.getElem?_map] at hx
    obtain ⟨j, hj, ej⟩ := Option.map_eq_some_iff.mp hx
    cases z : e[j]? with
    | none => rw [z] at ej; cases ej
    | some o =>
      rw [z] at ej
      cases (show o = some x from ej)
      obtain ⟨u, hu, du⟩ := w.env j x z
      refine ⟨u, ?_, du⟩
      simp only [List.getElem?_cons_succ, L2.caps, List.getElem?_map, hj, Option.map_some, hu]
      rfl
theorem tComp_of {js : List Nat} {mi : MI} {tt : MT} {te : ME} {σ : St} {H : Hp} {Q : VK} (h : tG (relD X.K ct) X.K ct W (mComp js mi tt te) σ H Q) : tComp js (tG (relI X.K ct) X.K ct W mi) (tG relB X.K ct W0 tt) (tG (relD X.K ct) X.K ct W0 te) σ H Q := by
  obtain ⟨ι, e, M, w, p⟩ := tG_bind (relα := relI X.K ct) (f := fun it e M1 => cpGo it.src tt te (capE js e) it.ds [] M1) h
  refine ⟨ι, e, M, w, p.mono fun J H1 ⟨ι1, e1, M1, it, w1, q1, p1⟩ => ?_⟩
  obtain ⟨ok1, hz, step⟩ := q1
  refine ⟨fun i m ys H' => m = it.ds.length - i ∧ i ≤ it.ds.length ∧ ys.length ≤ i ∧ ∃ ι' M' ds', Ext X.K ι1 M1.length H1 ι' M'.length H' ∧ Rl X.K ct ι' M' H' ∧ DVs X.K ct ι' M'.length H' ds' ys ∧ PostG (relD X.K ct) X.K ct (wAt W σ) ι' M'.length H' (cpGo it.src tt te (capE js e1) (it.ds.drop i) ds' M') Q,
    ⟨it.ds.length, by simp, Nat.zero_le _, Nat.le_refl _, ι1, M1, [], .refl, w1.rl, .nil, by simpa using p1⟩, ?_⟩
  rintro i m ys H' ⟨rfl, hi, hy, ι', M', ds', x', r', dy, p'⟩
  by_cases hlt : i < it.ds.length
  · rw [List.drop_eq_getElem_cons hlt] at p'
    unfold cpGo at p'
    by_cases ok' : SrcOk it.src M'
    · rw [if_pos ok'] at p'
      obtain ⟨go, yl⟩ := (step ι' M' H' x' r' ok' i).1 _ (List.getElem?_eq_getElem hlt)
      refine .inr ⟨go, fun ys2 H2 => ys2.length ≤ i + 1 ∧ ∃ ι2 M2 ds2, Ext X.K ι1 M1.length H1 ι2 M2.length H2 ∧ Rl X.K ct ι2 M2 H2 ∧ DVs X.K ct ι2 M2.length H2 ds2 ys2 ∧ PostG (relD X.K ct) X.K ct (wAt W σ) ι2 M2.length H2 (cpGo it.src tt te (capE js e1) (it.ds.drop (i + 1)) ds2 M2) Q, ?_, ?_⟩
      · rintro ys2 H2 ⟨hl2, q2⟩
        exact ⟨by omega, it.ds.length - (i + 1), by omega, rfl, hlt, hl2, q2⟩
      · intro x H2 y
        obtain ⟨x2, r2, dv⟩ := yl x H2 y
        have w2 : Ws X.K ct ι' (some it.ds[i] :: capE js e1) M' (some x :: L2.caps js σ) H2 := (w1.ext (x'.trans x2) r2).caps js dv
        have p2 := p'.ext x2
        refine ⟨ι', _, M', w2, ?_⟩
        cases z : tt (some it.ds[i] :: capE js e1) M' with
        | bad => simp only [z, noX_bad, Out.bind_bad] at p2; exact p2
        | exc xc xd xM => simp only [z, noX_exc, Out.bind_bad] at p2; exact p2.elim
        | ok k M3 =>
          simp only [z, noX_ok, Out.bind_ok] at p2
          intro ι3 k3 H3 x3 r3 ek
          have hEq : k = k3 := ek; subst hEq
          have p3 := p2.ext x3
          have w3 := w2.ext x3 r3
          have dy3 := (dy.mono x2).mono x3
          cases k with
          | false => exact ⟨by omega, ι3, M3, ds', (x'.trans x2).trans x3, r3, dy3, p3⟩
          | true =>
            simp only [if_true] at p3 ⊢
            refine ⟨ι3, _, M3, w3, ?_⟩
            cases z4 : te (some it.ds[i] :: capE js e1) M3 with
            | bad => simp only [z4, noX_bad, Out.bind_bad] at p3; exact p3
            | exc xc xd xM => simp only [z4, noX_exc, Out.bind_bad] at p3; exact p3.elim
            | ok yy M4 =>
              simp only [z4, noX_ok, Out.bind_ok] at p3
              intro ι4 v4 H4 x4 r4 d4
              exact ⟨by rw [List.length_append]; simp; omega, ι4, M4, ds' ++ [yy], ((x'.trans x2).trans x3).trans x4, r4, (dy3.mono x4).append (.cons d4 .nil), p3.ext x4⟩
    · rw [if_neg ok'] at p'
      exact p'.elim
  · have e0 : i = it.ds.length := by omega
    subst e0
    rw [List.drop_length] at p'
    unfold cpGo at p'
    by_cases ok' : SrcOk it.src M'
    · rw [if_pos ok'] at p'
      exact .inl ⟨(step ι' M' H' x' r' ok' _).2 (Nat.le_refl _), by omega, fun pp hp => post_lst r' dy hp p'⟩
    · rw [if_neg ok'] at p'
      exact p'.elim
variable {elt iter : Expr} {ifs : List Expr} {scope : Scope} {x : Str} {px : Pos} {mi : MI} {tt : MT} {te : ME}
theorem se_comp (hc : X.calm = true) (cs : List Str) (js : List Nat) (hi : SI X ct W (.Name x px) iter mi) (hcap : CapOk X scope cs js) (ht : ∀ cl C fp s H, STs (cxComp X scope cl C (x :: cs) fp s H) ct W0 ifs tt) (he : ∀ cl C fp s H, SE (cxComp X scope cl C (x :: cs) fp s H) ct W0 elt te)
    (hall : ∀ y ∈ scope.names, y.2 = .free → y.1 ∈ cs) (hcell : ∀ y ∈ scope.names, y.2 ≠ .cell) (hnames : ∀ y ∈ scope.names, y.2 = .local → scope.names.lookup y.1 = some .local) (hnd : (x :: cs).Nodup)
    (hkind : scope.kind = .function := by rfl) (hx : scope.names.lookup x = some .local := by rfl) (hs : ∀ v, foldedSetIterable iter X.env v = pure v := by intro _; rfl) :
    SE X ct W (.ListComp elt [⟨.Name x px, iter, ifs, 0⟩] scope pos) (mComp js mi tt te) :=
  se_of (pe_comp (tt := tG relB X.K ct W0 tt) (te := tG (relD X.K ct) X.K ct W0 te) hc cs js hi hcap (fun cl C fp s H => ht cl C fp s H) (fun cl C fp s H => he cl C fp s H) hall hcell hnames hnd hkind hx hs) fun σ H Q q => tComp_of q
theorem ss_comp {y : Str} {py spos : Pos} {k : Nat} (hc : X.calm = true) (cs : List Str) (js : List Nat) (hN : X.N.Nodup) (hk : X.N[k]? = some y) (hy : X.env.scope.names.lookup y = some .local) (hi : SI X ct W (.Name x px) iter mi) (hcap : CapOk X scope cs js)
    (ht : ∀ cl C fp s H, STs (cxComp X scope cl C (x :: cs) fp s H) ct W0 ifs tt) (he : ∀ cl C fp s H, SE (cxComp X scope cl C (x :: cs) fp s H) ct W0 elt te)
    (hall : ∀ y ∈ scope.names, y.2 = .free → y.1 ∈ cs) (hcell : ∀ y ∈ scope.names, y.2 ≠ .cell) (hnames : ∀ y ∈ scope.names, y.2 = .local → scope.names.lookup y.1 = some .local) (hnd : (x :: cs).Nodup)
    (hsw : swapsWith (.ListComp elt [⟨.Name x px, iter, ifs, 0⟩] scope pos) (some (.Name y py)) spos.line X.env = pure true := by rfl)
    (hkind : scope.kind = .function := by rfl) (hx : scope.names.lookup x = some .local := by rfl) (hs : ∀ v, foldedSetIterable iter X.env v = pure v := by intro _; rfl) :
    SS X ct W (.Assign [.Name y py] (.ListComp elt [⟨.Name x px, iter, ifs, 0⟩] scope pos) spos) (sAsg (mComp js mi tt te) (gN k)) :=
  PS.imp (ps_comp (tt := tG relB X.K ct W0 tt) (te := tG (relD X.K ct) X.K ct W0 te) hc cs js hN hk hy hi hcap (fun cl C fp s H => ht cl C fp s H) (fun cl C fp s H => he cl C fp s H) hall hcell hnames hnd hsw hkind hx hs) fun T σ H q => tAsg_of (fun _ q => tComp_of q) (fun v H Q ⟨ι, e, M, d, w, q, p⟩ => p _ (w.set k q)) q
end
def slots (n : Nat) (ds : List D) : Sl := ds.map some ++ List.replicate (n - ds.length) none
def runF (n : Nat) (b : MS) : Fn := fun ds M => match b (slots n ds) M with
  | .ret d M' => .ok d M'
  | .next _ M' => .ok .non M'
  | .exc c d _ M' => .exc c d M'
  | _ => .bad
theorem Ws.start {K : PySem.W.Frag} {ct ι : Nat → Addr} {M : Mem} {H : Hp} {ds : List D} {vs : List V} (N : List Str) (R : Rl K ct ι M H) (h : DVs K ct ι M.length H ds vs) : Ws K ct ι (slots N.length ds) M (L2.start N vs) H := by
  refine ⟨R, by simp [slots, L2.start, h.length], fun i d hd => ?_⟩
  unfold slots at hd
  by_cases z : i < ds.length
  · rw [List.getElem?_append_left (by simpa using z), List.getElem?_map] at hd
    obtain ⟨d', e1, e2⟩ := Option.map_eq_some_iff.mp hd
    cases e2
    obtain ⟨v, hv, dv⟩ := h.at e1
    refine ⟨v, ?_, dv⟩
    unfold L2.start
    rw [List.getElem?_append_left (by rw [List.length_map, h.length]; exact z), List.getElem?_map, hv]
    rfl
  · rw [List.getElem?_append_right (by simpa using z), List.getElem?_replicate] at hd
    split at hd <;> cases hd
section
variable {P : Program} {w : World} {K : PySem.W.Frag} {mg : Str → Option Value} {base : Heap} {ct : Nat → Addr}
theorem fn_s {n ar : Nat} {b : MS} {x qual : Str} {st : Stmt} {dV : Value} {f : Addr} {fd : FuncData} {N ps : List Str} {k : Nat} (F : FunD K x qual st dV f fd) (S : FnScope N ps (defScope st)) (hn : N.length = n) (har : ps.length = ar)
    (hbody : ∀ (cdv : Value) (A : Around) (outer : List PySem.Env) (s : Shared) (H : Hp) (E : XK) (W : XWish), Room k (A.deeper (envOfC qual (defScope st) s.heap.objs.size f cdv)) →
      SSs ((cxOf (CXx P w) P w K mg base N qual (defScope st) f cdv A outer s H E).wish (XBody (cxOf (CXx P w) P w K mg base N qual (defScope st) f cdv A outer s H E) W)) ct W (defBody st) b) :
    FnOk P w K mg base (CXx P w) (k + 1) f fd ps (spS K ct (runF n b) ar) := by
  subst hn har
  refine F.okX S (fun vs H Q E ⟨ι, ds, M, hl, _, hd, _⟩ => by rw [hd.length, hl]) fun cdv A outer s H vs Q E hr ⟨ι, ds, M, hl, R, hd, p⟩ => ?_
  refine ⟨_, fun C dx _ H' => E (.ref C) (some dx) H', fun C dx σ H' z => z, hbody cdv A outer s H E _ hr, ι, slots N.length ds, M, Ws.start N R hd, ?_⟩
  unfold runF at p
  cases z : b (slots N.length ds) M with
  | ret d M' => rw [z] at p; exact fun ι' v H' x r q => .inl (p ι' v H' x r q)
  | next e M' => rw [z] at p; exact fun ι' σ' H' x w' => .inl (p ι' .non H' x w'.rl .non)
  | exc c d e M' => rw [z] at p; exact fun ι' σ' dx v H' x w' q1 q2 => p ι' dx v H' x w'.rl q1 q2
  | brk e M' => rw [z] at p; exact p.elim
  | cont e M' => rw [z] at p; exact p.elim
  | bad => rw [z] at p; exact p.elim
end
theorem fromX {P : Program} {w : World} {K : PySem.W.Frag} {mg : Str → Option Value} {base : Heap} {k : Nat} {f : Addr} {fd : FuncData} {ps : List Str} {sp : Sp} (F : FnOk P w K mg base (CXx P w) k f fd ps sp) : FnOk P w K mg base CX0 k f fd ps (fun vs H Q _ => sp vs H Q E0) :=
  ⟨fun vs H Q _ h => F.len vs H Q E0 h, fun A outer s H args us vs Q E hr he hb hv hs => codeAny_mono (F.run A outer s H args us vs Q E0 hr he hb hv hs) fun r s' hq => by
    match r, hq with
    | .error e, hq => obtain ⟨_, _, _, _, _, _, _, _, _, _, _, _, _, _, _, z⟩ := hq; exact z.elim
    | .ok (.ret u), hq => exact hq⟩
theorem own_wish {Y : Cx} {W : XWish} (hst : Y.stack = Y.env :: Y.outer) (hf : Y.env.frame = some Y.env.locals) (ok : (Y.wish (XBody Y W)).Ok) : PassesOwn (model Y.prog Y.w) Y.A Y.env (XBody Y W) := fun ev s' h => XBody.passesOwn hst hf ok.frames ev s' h
theorem Tk.none {X : Cx} : Tk X W0 := fun _ _ ⟨_, _, _, _, _, _, _, _, _, _, _, _, _, _, z⟩ => z.elim
def spL (K : PySem.W.Frag) : Sp := fun vs H Q _ => ∃ (a : Addr) (ns : List Int), vs = [.ref a] ∧ FrL K H a (ns.map V.int) ∧ ns.length ≤ 63 ∧ ∀ H', Q (.bl true) H'
theorem dvs_ints {K : PySem.W.Frag} {ct ι : Nat → Addr} {n : Nat} {H : Hp} : ∀ ns : List Int, DVs K ct ι n H (ns.map D.int) (ns.map V.int)
  | [] => .nil
  | i :: r => .cons (.int i) (dvs_ints r)
theorem law_s {P : Program} {w : World} {K : PySem.W.Frag} {mg : Str → Option Value} {base : Heap} {ct : Nat → Addr} {k : Nat} {f : Addr} {fd : FuncData} {x : Str} {fn : Fn} (F : FnOk P w K mg base (CXx P w) k f fd [x] (spS K ct fn 1))
    (h : ∀ ns : List Int, ns.length ≤ 63 → ∃ M, fn [.cl (ns.map D.int)] [] = .ok (.bl true) M) : FnOk P w K mg base CX0 k f fd [x] (spL K) := by
  refine (fromX F).imp fun vs H Q E ⟨a, ns, e, hf, hl, q⟩ => ?_
  subst e
  obtain ⟨M, e⟩ := h ns hl
  refine ⟨fun _ => 0, [.cl (ns.map D.int)], [], rfl, ⟨fun i j hi => absurd hi (Nat.not_lt_zero _), fun i o h => by simp at h⟩, .cons (.cl hf (dvs_ints ns)) .nil, ?_⟩
  rw [e]
  intro ι' v H' _ _ dv
  cases dv
  exact q H'
theorem walkS {l : PySem.W.OpenLaw} {q : Program} {loose : List Str} {XP : (Str → Option Value) → Heap → Prop} {YP : World → Heap → Prop} {d : DefRec} {K : Params → PySem.W.Frag} {x : Str} {k : Nat} (hn : l.most = some 63) (hdf : d.params.defaults = []) (hr : Room k callerA)
    (hY : ∀ (w : World) (h : Heap), YP w h → (K w.params).In h)
    (F : ∀ (w : World) (mg : Str → Option Value) (fa : Addr) (h : Heap), (K w.params).In h → h.Ns mainGlobals mg → mg d.name = some (.ref fa) →
      ∃ fd : FuncData, (∀ (s : Shared) (u : Value), BindsTo s fd ⟨[u], []⟩ [(x, u)]) ∧ ∀ base : Heap, (K w.params).In base → base.Ns mainGlobals mg → FnOk l.prog w (K w.params) mg base CX0 k fa fd [x] (spL (K w.params))) :
    PySem.W.WalkO q loose XP YP l.row.toRowW d [] (fun f vs => PySem.call f vs) :=
  walk_of (n := 63) (k := k) (x := x) (CX := fun _ => CX0) (sp := fun w => spL (K w.params)) hn (by decide) hdf hr hY F (fun _ H a ns hl hO hS => ⟨a, ns, rfl, by
    rcases hS with (z | z) | z
    · rcases hO a with n | ⟨o, xs, n⟩
      · rw [n] at z; cases z
      · rw [n] at z; cases z
    · exact .inl z
    · exact .inr z, hl, fun _ => rfl⟩) fun _ _ _ _ _ z => z
end S
namespace S
open PySem PySem.Spec PyProof.Rows L2
section
variable {e : Sl} {M : Mem}
@[simp] theorem mVar_ap {i : Nat} {d : D} (h : e[i]? = some (some d)) : mVar i e M = .ok d M := mVar_eq h
@[simp] theorem mVar0 {d : D} {r : Sl} : mVar 0 (some d :: r) M = .ok d M := mVar_eq rfl
@[simp] theorem mVar1 {o0 : Option D} {d : D} {r : Sl} : mVar 1 (o0 :: some d :: r) M = .ok d M := mVar_eq rfl
@[simp] theorem mVar2 {o0 o1 : Option D} {d : D} {r : Sl} : mVar 2 (o0 :: o1 :: some d :: r) M = .ok d M := mVar_eq rfl
@[simp] theorem mVar3 {o0 o1 o2 : Option D} {d : D} {r : Sl} : mVar 3 (o0 :: o1 :: o2 :: some d :: r) M = .ok d M := mVar_eq rfl
@[simp] theorem mVar4 {o0 o1 o2 o3 : Option D} {d : D} {r : Sl} : mVar 4 (o0 :: o1 :: o2 :: o3 :: some d :: r) M = .ok d M := mVar_eq rfl
@[simp] theorem mVar5 {o0 o1 o2 o3 o4 : Option D} {d : D} {r : Sl} : mVar 5 (o0 :: o1 :: o2 :: o3 :: o4 :: some d :: r) M = .ok d M := mVar_eq rfl
@[simp] theorem mVar6 {o0 o1 o2 o3 o4 o5 : Option D} {d : D} {r : Sl} : mVar 6 (o0 :: o1 :: o2 :: o3 :: o4 :: o5 :: some d :: r) M = .ok d M := mVar_eq rfl
@[simp] theorem mVar7 {o0 o1 o2 o3 o4 o5 o6 : Option D} {d : D} {r : Sl} : mVar 7 (o0 :: o1 :: o2 :: o3 :: o4 :: o5 :: o6 :: some d :: r) M = .ok d M := mVar_eq rfl
@[simp] theorem mVar8 {o0 o1 o2 o3 o4 o5 o6 o7 : Option D} {d : D} {r : Sl} : mVar 8 (o0 :: o1 :: o2 :: o3 :: o4 :: o5 :: o6 :: o7 :: some d :: r) M = .ok d M := mVar_eq rfl
@[simp] theorem mVar9 {o0 o1 o2 o3 o4 o5 o6 o7 o8 : Option D} {d : D} {r : Sl} : mVar 9 (o0 :: o1 :: o2 :: o3 :: o4 :: o5 :: o6 :: o7 :: o8 :: some d :: r) M = .ok d M := mVar_eq rfl
@[simp] theorem mVar10 {o0 o1 o2 o3 o4 o5 o6 o7 o8 o9 : Option D} {d : D} {r : Sl} : mVar 10 (o0 :: o1 :: o2 :: o3 :: o4 :: o5 :: o6 :: o7 :: o8 :: o9 :: some d :: r) M = .ok d M := mVar_eq rfl
@[simp] theorem mVar11 {o0 o1 o2 o3 o4 o5 o6 o7 o8 o9 o10 : Option D} {d : D} {r : Sl} : mVar 11 (o0 :: o1 :: o2 :: o3 :: o4 :: o5 :: o6 :: o7 :: o8 :: o9 :: o10 :: some d :: r) M = .ok d M := mVar_eq rfl
@[simp] theorem mVar12 {o0 o1 o2 o3 o4 o5 o6 o7 o8 o9 o10 o11 : Option D} {d : D} {r : Sl} : mVar 12 (o0 :: o1 :: o2 :: o3 :: o4 :: o5 :: o6 :: o7 :: o8 :: o9 :: o10 :: o11 :: some d :: r) M = .ok d M := mVar_eq rfl
@[simp] theorem mVar13 {o0 o1 o2 o3 o4 o5 o6 o7 o8 o9 o10 o11 o12 : Option D} {d : D} {r : Sl} : mVar 13 (o0 :: o1 :: o2 :: o3 :: o4 :: o5 :: o6 :: o7 :: o8 :: o9 :: o10 :: o11 :: o12 :: some d :: r) M = .ok d M := mVar_eq rfl
@[simp] theorem mVar14 {o0 o1 o2 o3 o4 o5 o6 o7 o8 o9 o10 o11 o12 o13 : Option D} {d : D} {r : Sl} : mVar 14 (o0 :: o1 :: o2 :: o3 :: o4 :: o5 :: o6 :: o7 :: o8 :: o9 :: o10 :: o11 :: o12 :: o13 :: some d :: r) M = .ok d M := mVar_eq rfl
@[simp] theorem mVar15 {o0 o1 o2 o3 o4 o5 o6 o7 o8 o9 o10 o11 o12 o13 o14 : Option D} {d : D} {r : Sl} : mVar 15 (o0 :: o1 :: o2 :: o3 :: o4 :: o5 :: o6 :: o7 :: o8 :: o9 :: o10 :: o11 :: o12 :: o13 :: o14 :: some d :: r) M = .ok d M := mVar_eq rfl
@[simp] theorem mC_ap {d : D} : mC d e M = .ok d M := id rfl
@[simp] theorem mBin_ap {op : Op2} {ma mb : ME} : mBin op ma mb e M = (ma e M).bind fun d M1 => (mb e M1).bind fun d' M2 => op d d' M2 := id rfl
@[simp] theorem mUn_ap {op : D → Mem → Out D} {ma : ME} : mUn op ma e M = (ma e M).bind op := id rfl
@[simp] theorem asB_bl {b : Bool} : asB (.bl b) M = .ok b M := id rfl
@[simp] theorem mTest_ap {m : ME} : mTest m e M = (m e M).bind asB := id rfl
@[simp] theorem mAnd_ap {t u : MT} : mAnd t u e M = (t e M).bind fun k M1 => if k = true then u e M1 else .ok false M1 := id rfl
@[simp] theorem mOr_ap {t u : MT} : mOr t u e M = (t e M).bind fun k M1 => if k = true then .ok true M1 else u e M1 := id rfl
@[simp] theorem mNot_ap {t : MT} : mNot t e M = (t e M).bind fun k M1 => .ok (!k) M1 := id rfl
@[simp] theorem mAndV_ap {t u : ME} : mAndV t u e M = (t e M).bind fun d M1 => (asB d M1).bind fun k M2 => if k = true then u e M2 else .ok (.bl false) M2 := id rfl
@[simp] theorem mOrV_ap {t u : ME} : mOrV t u e M = (t e M).bind fun d M1 => (asB d M1).bind fun k M2 => if k = true then .ok (.bl true) M2 else u e M2 := id rfl
@[simp] theorem mNotV_ap {t : ME} : mNotV t e M = (t e M).bind fun d M1 => (asB d M1).bind fun k M2 => .ok (.bl (!k)) M2 := id rfl
@[simp] theorem mIf_ap {t : MT} {a b : ME} : mIf t a b e M = (t e M).bind fun k M1 => if k = true then a e M1 else b e M1 := id rfl
@[simp] theorem mChain_ap {o1 o2 : Op2} {ma mb mc : ME} : mChain o1 o2 ma mb mc e M = (ma e M).bind fun d1 M1 => (mb e M1).bind fun d2 M2 => (o1 d1 d2 M2).bind fun r M3 => (asB r M3).bind fun k M4 =>
  if k = true then (mc e M4).bind fun d3 M5 => o2 d2 d3 M5 else .ok (.bl false) M4 := id rfl
@[simp] theorem mNil_ap : mNil e M = .ok [] M := id rfl
@[simp] theorem mCons_ap {m : ME} {ms : MA} : mCons m ms e M = (m e M).bind fun d M1 => (ms e M1).bind fun ds M2 => .ok (d :: ds) M2 := id rfl
theorem line_eq : sizeLine = 16777216 := sizeLine_eq
@[simp] theorem mTup_ap {ms : MA} : mTup ms e M = (ms e M).bind fun ds M1 => if ds.length ≤ 16777216 then .ok (.tup ds) M1 else .bad := by unfold mTup; rw [line_eq]
@[simp] theorem mLst_ap {ms : MA} : mLst ms e M = (ms e M).bind fun ds M1 => if ds.length ≤ 16777216 then .ok (.ref M1.length) (M1 ++ [.lst ds]) else .bad := by unfold mLst; rw [line_eq]
@[simp] theorem mFld_ap {cs : List Nat} {m : ME} {f : Str} : mFld cs m f e M = (m e M).bind (getF cs f) := id rfl
theorem getF_eq {cs : List Nat} {f : Str} {n c : Nat} {fs : List (Str × D)} {d : D} (h : M[n]? = some (.ins c fs)) (hc : c ∈ cs) (hf : fs.lookup f = some d) : getF cs f (.ref n) M = .ok d M := by
  unfold getF; simp only [h, hc, if_true, hf]
@[simp] theorem mCall_ap {fn : Fn} {ar : Nat} {dv : List D} {ms : MA} : mCall fn ar dv ms e M = (ms e M).bind fun ds M1 => if (ds ++ dv).length = ar then fn (ds ++ dv) M1 else .bad := id rfl
@[simp] theorem mMeth_ap {k : Nat} {m : Str} {fn : Fn} {ar : Nat} {dv : List D} {mo : ME} {ms : MA} : mMeth k m fn ar dv mo ms e M = (mo e M).bind fun d M1 => if isIns k m d M1 = true then (ms e M1).bind fun ds M2 => if (d :: (ds ++ dv)).length = ar then fn (d :: (ds ++ dv)) M2 else .bad else .bad := id rfl
theorem isIns_eq {k : Nat} {m : Str} {n : Nat} {fs : List (Str × D)} (h : M[n]? = some (.ins k fs)) (hf : fs.lookup m = none) : isIns k m (.ref n) M = true := by
  unfold isIns; simp [h, hf]
@[simp] theorem mMake_ap {kc : Nat} {fn : Fn} {ar : Nat} {dv : List D} {ms : MA} : mMake kc fn ar dv ms e M = (ms e M).bind fun ds M1 => if (D.ref M1.length :: (ds ++ dv)).length = ar then (fn (.ref M1.length :: (ds ++ dv)) (M1 ++ [.ins kc []])).bind fun r M2 => if isNon r = true then .ok (.ref M1.length) M2 else .bad else .bad := id rfl
@[simp] theorem isNon_non : isNon .non = true := id rfl
@[simp] theorem mCB_ap {op : OpN} {ms : MA} : mCB op ms e M = (ms e M).bind op := id rfl
@[simp] theorem mBM_ap {T : String} {op : D → List D → Mem → Out D} {mo : ME} {ms : MA} : mBM T op mo ms e M = (mo e M).bind fun d M1 => if tyD T d M1 = true then (ms e M1).bind fun ds M2 => op d ds M2 else .bad := id rfl
@[simp] theorem mSl_ap {m : ME} {lo hi : MO'} : mSl m lo hi e M = (m e M).bind fun d M1 => (lo e M1).bind fun l M2 => (hi e M2).bind fun h M3 => sSl d l h M3 := id rfl
@[simp] theorem mPart_ap {m : ME} : mPart m e M = (m e M).bind asI := id rfl
@[simp] theorem mNoPart_ap : mNoPart e M = .ok none M := id rfl
@[simp] theorem asI_int {i : Int} : asI (.int i) M = .ok (some i) M := id rfl
@[simp] theorem mIter_ap {m : ME} : mIter m e M = (m e M).bind itOf := id rfl
@[simp] theorem itOf_cl {ds : List D} : itOf (.cl ds) M = .ok ⟨none, ds⟩ M := id rfl
@[simp] theorem itOf_tup {ds : List D} : itOf (.tup ds) M = .ok ⟨none, ds⟩ M := id rfl
theorem itOf_ref {n : Nat} {ds : List D} (h : M[n]? = some (.lst ds)) : itOf (.ref n) M = .ok ⟨some (n, ds), ds⟩ M := by simp only [itOf, lstOf_lst h]
@[simp] theorem mRng1_ap {ms : MA} : mRng1 ms e M = (ms e M).bind rng1 := id rfl
@[simp] theorem mRng2_ap {ms : MA} : mRng2 ms e M = (ms e M).bind rng2 := id rfl
theorem rng1_int {j : Int} (h : -(2 ^ 62) ≤ j) (h2 : j < 2 ^ 24) : rng1 [.int j] M = .ok ⟨none, rng 0 j.toNat⟩ M := by simp only [rng1]; rw [if_pos ⟨h, h2⟩]
@[simp] theorem mComp_ap {js : List Nat} {mi : MI} {tt : MT} {te : ME} : mComp js mi tt te e M = (mi e M).bind fun it M1 => cpGo it.src tt te (capE js e) it.ds [] M1 := id rfl
@[simp] theorem mAll_ap : mAll e M = .ok true M := id rfl
@[simp] theorem C1_ap {i j : Int} : C1 i j = true := id rfl
@[simp] theorem iop_ap {C : Int → Int → Bool} {g : Int → Int → D} {i j : Int} : iop C g (.int i) (.int j) M = if C i j = true then .ok (g i j) M else .bad := id rfl
@[simp] theorem sAdd_int {i j : Int} : sAdd (.int i) (.int j) M = .ok (.int (i + j)) M := id rfl
@[simp] theorem sSub_int {i j : Int} : sSub (.int i) (.int j) M = .ok (.int (i - j)) M := id rfl
@[simp] theorem sAnd_int {i j : Int} : sAnd (.int i) (.int j) M = .ok (.int (Builtin.bitAnd i j)) M := id rfl
@[simp] theorem sOr_int {i j : Int} : sOr (.int i) (.int j) M = .ok (.int (Builtin.bitOr i j)) M := id rfl
@[simp] theorem sXor_int {i j : Int} : sXor (.int i) (.int j) M = .ok (.int (Builtin.bitXor i j)) M := id rfl
@[simp] theorem sLt_int {i j : Int} : sLt (.int i) (.int j) M = .ok (.bl (decide (i < j))) M := id rfl
@[simp] theorem sLtI_int {i j : Int} : sLtI (.int i) (.int j) M = .ok (.bl (decide (i < j))) M := id rfl
@[simp] theorem sLeI_int {i j : Int} : sLeI (.int i) (.int j) M = .ok (.bl (decide (i ≤ j))) M := id rfl
@[simp] theorem sGtI_int {i j : Int} : sGtI (.int i) (.int j) M = .ok (.bl (decide (j < i))) M := id rfl
@[simp] theorem sGeI_int {i j : Int} : sGeI (.int i) (.int j) M = .ok (.bl (decide (j ≤ i))) M := id rfl
theorem sMul_int {i j : Int} (h : (-(2 ^ 64) < i ∧ i < 2 ^ 64) ∨ (-(2 ^ 64) < j ∧ j < 2 ^ 64)) : sMul (.int i) (.int j) M = .ok (.int (i * j)) M := by
  refine orOp_ok ?_; unfold sMulI; rw [iop_ap, if_pos (by unfold bMul; exact decide_eq_true h)]
theorem sDiv_int {i j : Int} (h : 0 < j) (h2 : j < 1073741824) : sDiv (.int i) (.int j) M = .ok (.int (i / j)) M := by
  unfold sDiv; rw [iop_ap, if_pos (by unfold bDiv; exact decide_eq_true ⟨h, h2⟩)]
theorem sMod_int {i j : Int} (h : 0 < j) : sMod (.int i) (.int j) M = .ok (.int (i % j)) M := by
  unfold sMod; rw [iop_ap, if_pos (by unfold bMod; exact decide_eq_true h)]
theorem sPow_int {i j : Int} (h : 0 ≤ j ∧ j ≤ 1000000 ∧ i.natAbs < 2 ^ 64) : sPow (.int i) (.int j) M = .ok (.int (i ^ j.toNat)) M := by
  unfold sPow; rw [iop_ap, if_pos (by unfold bPow; exact decide_eq_true h)]
@[simp] theorem sNeg_int {i : Int} : sNeg (.int i) M = .ok (.int (-i)) M := id rfl
@[simp] theorem sInv_int {i : Int} : sInv (.int i) M = .ok (.int (Builtin.bitNot i)) M := id rfl
@[simp] theorem toDt_int {k : Nat} {i : Int} : toDt M (k + 1) (.int i) = some (.int i) := id rfl
@[simp] theorem toDt_str {k : Nat} {i : Str} : toDt M (k + 1) (.str i) = some (.str i) := id rfl
@[simp] theorem toDt_bl {k : Nat} {i : Bool} : toDt M (k + 1) (.bl i) = some (.bl i) := id rfl
@[simp] theorem toDt_non {k : Nat} : toDt M (k + 1) .non = some .non := id rfl
theorem eqD_of {d d' : D} {a b : Dt} (h : toDt M 12 d = some a) (h' : toDt M 12 d' = some b) : eqD M d d' = some (deq a b) := by unfold eqD; rw [h, h']
theorem sEq_of {d d' : D} {b : Bool} (h : eqD M d d' = some b) : sEq d d' M = .ok (.bl b) M := by unfold sEq; rw [h]
theorem sNe_of {d d' : D} {b : Bool} (h : eqD M d d' = some b) : sNe d d' M = .ok (.bl (!b)) M := by unfold sNe; rw [h]
theorem eqD_int {i j : Int} : eqD M (.int i) (.int j) = some (decide (i = j)) := by
  rw [eqD_of (a := .int i) (b := .int j) rfl rfl]; unfold deq; rw [Bool.beq_eq_decide_eq]
theorem eqD_str {i j : Str} : eqD M (.str i) (.str j) = some (decide (i = j)) := by
  rw [eqD_of (a := .str i) (b := .str j) rfl rfl]; unfold deq; rw [Bool.beq_eq_decide_eq]
theorem eqD_bl {i j : Bool} : eqD M (.bl i) (.bl j) = some (decide (i = j)) := by
  rw [eqD_of (a := .bl i) (b := .bl j) rfl rfl]; unfold deq; rw [Bool.beq_eq_decide_eq]
@[simp] theorem sEq_int {i j : Int} : sEq (.int i) (.int j) M = .ok (.bl (decide (i = j))) M := sEq_of eqD_int
@[simp] theorem sNe_int {i j : Int} : sNe (.int i) (.int j) M = .ok (.bl (!decide (i = j))) M := sNe_of eqD_int
@[simp] theorem sEq_str {i j : Str} : sEq (.str i) (.str j) M = .ok (.bl (decide (i = j))) M := sEq_of eqD_str
@[simp] theorem sNe_str {i j : Str} : sNe (.str i) (.str j) M = .ok (.bl (!decide (i = j))) M := sNe_of eqD_str
@[simp] theorem sEq_bl {i j : Bool} : sEq (.bl i) (.bl j) M = .ok (.bl (decide (i = j))) M := sEq_of eqD_bl
@[simp] theorem sNe_bl {i j : Bool} : sNe (.bl i) (.bl j) M = .ok (.bl (!decide (i = j))) M := sNe_of eqD_bl
theorem eqD_self {d : D} {t : Dt} (h : toDt M 12 d = some t) : eqD M d d = some true := by rw [eqD_of h h, deq_refl]
@[simp] theorem sIs_non {d : D} : sIs d .non M = .ok (.bl (isN d)) M := id rfl
@[simp] theorem sIsNot_non {d : D} : sIsNot d .non M = .ok (.bl (!isN d)) M := id rfl
@[simp] theorem isN_non : isN .non = true := id rfl
@[simp] theorem isN_int {i : Int} : isN (.int i) = false := id rfl
@[simp] theorem isN_ref {i : Nat} : isN (.ref i) = false := id rfl
@[simp] theorem isN_tup {i : List D} : isN (.tup i) = false := id rfl
theorem atI_nn {α : Type} {xs : List α} {k : Int} (h : 0 ≤ k) : atI xs k = xs[k.toNat]? := by
  unfold atI ixN
  rw [if_pos h]
  by_cases z : k < xs.length
  · rw [if_pos z]; rfl
  · rw [if_neg z]
    show none = _
    rw [List.getElem?_eq_none (by omega)]
theorem sIx_tup {ds : List D} {k : Int} {d : D} (h0 : 0 ≤ k) (h : ds[k.toNat]? = some d) : sIx (.tup ds) (.int k) M = .ok d M :=
  orOp_ok (orOp_ok (by simp only [sIxS, atI_nn h0, h]))
theorem sIx_cl {ds : List D} {k : Int} {d : D} (h0 : 0 ≤ k) (h : ds[k.toNat]? = some d) : sIx (.cl ds) (.int k) M = .ok d M :=
  orOp_ok (orOp_ok (by simp only [sIxS, seqL, atI_nn h0, h]))
theorem sIx_ref {n : Nat} {ds : List D} {k : Int} {d : D} (hM : M[n]? = some (.lst ds)) (h0 : 0 ≤ k) (h : ds[k.toNat]? = some d) : sIx (.ref n) (.int k) M = .ok d M :=
  orOp_ok (orOp_ok (by simp only [sIxS, seqL, lstOf_lst hM, atI_nn h0, h]))
@[simp] theorem sIx_tup0 {d : D} {r : List D} : sIx (.tup (d :: r)) (.int 0) M = .ok d M := sIx_tup (by decide) rfl
@[simp] theorem sIx_tup1 {d0 d : D} {r : List D} : sIx (.tup (d0 :: d :: r)) (.int 1) M = .ok d M := sIx_tup (by decide) rfl
@[simp] theorem sIx_tup2 {d0 d1 d : D} {r : List D} : sIx (.tup (d0 :: d1 :: d :: r)) (.int 2) M = .ok d M := sIx_tup (by decide) rfl
@[simp] theorem sIx_tup3 {d0 d1 d2 d : D} {r : List D} : sIx (.tup (d0 :: d1 :: d2 :: d :: r)) (.int 3) M = .ok d M := sIx_tup (by decide) rfl
theorem sLen_ref {n : Nat} {ds : List D} (hM : M[n]? = some (.lst ds)) : sLen [.ref n] M = .ok (.int ds.length) M := orN_ok (orN_ok (by simp only [sLenS, seqOf, seqL, lstOf_lst hM]))
@[simp] theorem sLen_tup {ds : List D} : sLen [.tup ds] M = .ok (.int ds.length) M := id rfl
@[simp] theorem sLen_cl {ds : List D} : sLen [.cl ds] M = .ok (.int ds.length) M := id rfl
theorem sTuple_ref {n : Nat} {ds : List D} (hM : M[n]? = some (.lst ds)) : sTuple [.ref n] M = .ok (.tup ds) M := by simp only [sTuple, seqOf, seqL, lstOf_lst hM]
theorem sSl_ref {n : Nat} {ds : List D} {lo hi : Option Int} (hM : M[n]? = some (.lst ds)) : sSl (.ref n) lo hi M = .ok (.ref M.length) (M ++ [.lst (cut ds lo hi)]) := by simp only [sSl, seqL, lstOf_lst hM]
@[simp] theorem sSl_cl {ds : List D} {lo hi : Option Int} : sSl (.cl ds) lo hi M = .ok (.ref M.length) (M ++ [.lst (cut ds lo hi)]) := id rfl
theorem sAppend_ref {n : Nat} {ds : List D} {d : D} (hM : M[n]? = some (.lst ds)) (h : ds.length < 16777216) : sAppend (.ref n) [d] M = .ok .non (M.set n (.lst (ds ++ [d]))) := by
  simp only [sAppend, hM]; rw [line_eq, if_pos h]
theorem tyD_list {n : Nat} {ds : List D} (hM : M[n]? = some (.lst ds)) : tyD "list" (.ref n) M = true := by simp [tyD, lstOf_lst hM]
@[simp] theorem tyD_int {i : Int} : tyD "int" (.int i) M = true := id rfl
@[simp] theorem sBits_int {i : Int} : sBits (.int i) [] M = .ok (.int (Builtin.Int.intBits i : Nat)) M := id rfl
theorem sCat_ref {n m : Nat} {ds es : List D} (h : M[n]? = some (.lst ds)) (h' : M[m]? = some (.lst es)) (hl : ds.length + es.length ≤ 16777216) : sAdd (.ref n) (.ref m) M = .ok (.ref M.length) (M ++ [.lst (ds ++ es)]) := by
  refine orOp_ok ((orOp_bad rfl).trans ?_)
  unfold sCat
  simp only [h, h']
  rw [if_pos (by rw [line_eq]; exact hl)]
@[simp] theorem sMax2_int {i j : Int} : sMax2 [.int i, .int j] M = .ok (.int (if j > i then j else i)) M := id rfl
@[simp] theorem sMin2_int {i j : Int} : sMin2 [.int i, .int j] M = .ok (.int (if j < i then j else i)) M := id rfl
@[simp] theorem sIsi_int_int {i : Int} : sIsi [.int i, .ty "int"] M = .ok (.bl true) M := by unfold sIsi; rfl
@[simp] theorem sIsi_int_bool {i : Int} : sIsi [.int i, .ty "bool"] M = .ok (.bl false) M := by unfold sIsi; rfl
@[simp] theorem sIsi_bl_bool {i : Bool} : sIsi [.bl i, .ty "bool"] M = .ok (.bl true) M := by unfold sIsi; rfl
@[simp] theorem sIsi_bl_int {i : Bool} : sIsi [.bl i, .ty "int"] M = .ok (.bl true) M := by unfold sIsi; rfl
@[simp] theorem sIsi_tup_tup {i : List D} : sIsi [.tup i, .ty "tuple"] M = .ok (.bl true) M := by unfold sIsi; rfl
@[simp] theorem sNext_ap : sNext e M = .next e M := id rfl
def SOut.seq (o : SOut) (t : MS) : SOut := match o with
  | .next e M => t e M
  | .ret d M => .ret d M
  | .brk e M => .brk e M
  | .cont e M => .cont e M
  | .exc c d e M => .exc c d e M
  | .bad => .bad
@[simp] theorem sSeq_ap {s t : MS} : sSeq s t e M = (s e M).seq t := by
  unfold sSeq SOut.seq
  cases s e M <;> rfl
@[simp] theorem seq_next {t : MS} : (SOut.next e M).seq t = t e M := id rfl
@[simp] theorem seq_ret {t : MS} {d : D} : (SOut.ret d M).seq t = .ret d M := id rfl
@[simp] theorem seq_brk {t : MS} : (SOut.brk e M).seq t = .brk e M := id rfl
@[simp] theorem seq_cont {t : MS} : (SOut.cont e M).seq t = .cont e M := id rfl
@[simp] theorem seq_exc {t : MS} {c : Nat} {d : D} : (SOut.exc c d e M).seq t = .exc c d e M := id rfl
@[simp] theorem seq_bad {t : MS} : (SOut.bad).seq t = .bad := id rfl
@[simp] theorem sBrk_ap : sBrk e M = .brk e M := id rfl
@[simp] theorem sCont_ap : sCont e M = .cont e M := id rfl
@[simp] theorem sExpr_ap {m : ME} : sExpr m e M = ofE e (m e M) fun _ M1 => .next e M1 := id rfl
@[simp] theorem sRet_ap {m : ME} : sRet m e M = ofE e (m e M) fun d M1 => .ret d M1 := id rfl
@[simp] theorem sRetN_ap : sRetN e M = .ret .non M := id rfl
@[simp] theorem sIf_ap {c : MT} {s t : MS} : sIf c s t e M = ofE e (c e M) fun k M1 => if k = true then s e M1 else t e M1 := id rfl
def tgO (o : Option Sl) (M : Mem) : SOut := match o with
  | some e' => .next e' M
  | none => .bad
@[simp] theorem tgO_some : tgO (some e) M = .next e M := id rfl
@[simp] theorem sAsg_ap {m : ME} {g : Tg} : sAsg m g e M = ofE e (m e M) fun d M1 => tgO (g d e) M1 := by
  unfold sAsg tgO; rfl
@[simp] theorem gN_ap {i : Nat} {d : D} : gN i d e = some (e.set i (some d)) := id rfl
@[simp] theorem gT_ap {n : Nat} {gs : Tgs} {ds : List D} : gT n gs (.tup ds) e = if ds.length = n then gs ds e else none := id rfl
@[simp] theorem gCons_ap {g : Tg} {gs : Tgs} {d : D} {ds : List D} : gCons' g gs (d :: ds) e = (g d e).bind fun e' => gs ds e' := id rfl
@[simp] theorem gNil_ap : gNil' [] e = some e := id rfl
def memO (o : Option Mem) (e : Sl) : SOut := match o with
  | some M => .next e M
  | none => .bad
@[simp] theorem memO_some : memO (some M) e = .next e M := id rfl
@[simp] theorem sFldS_ap {cs : List Nat} {mo mv : ME} {f : Str} : sFldS cs mo mv f e M = ofE e (mv e M) fun d M1 => ofE e (mo e M1) fun o M2 => memO (putF' cs f d o M2) e := by
  unfold sFldS memO; rfl
theorem putF_eq {cs : List Nat} {f : Str} {d : D} {n c : Nat} {fs : List (Str × D)} (h : M[n]? = some (.ins c fs)) (hc : c ∈ cs) (hl : fs.length < 1000) : putF' cs f d (.ref n) M = some (M.set n (.ins c (putD f d fs))) := by
  unfold putF'; simp only [h]; rw [if_pos ⟨hc, hl⟩]
@[simp] theorem sFor_ap {mi : MI} {g : Tg} {b : MS} : sFor mi g b e M = ofE e (mi e M) fun it M1 => forGo it.src g b it.ds e M1 := id rfl
@[simp] theorem slots_cons {n : Nat} {d : D} {ds : List D} : slots (n + 1) (d :: ds) = some d :: slots n ds := by
  unfold slots
  simp
@[simp] theorem slots_none {n : Nat} : slots (n + 1) [] = none :: slots n [] := by
  unfold slots
  simp [List.replicate_succ]
@[simp] theorem slots_zero : slots 0 [] = [] := id rfl
def retO (o : SOut) : Out D := match o with
  | .ret d M => .ok d M
  | .next _ M => .ok .non M
  | .exc c d _ M => .exc c d M
  | _ => .bad
@[simp] theorem runF_ap {n : Nat} {b : MS} {ds : List D} : runF n b ds M = retO (b (slots n ds) M) := by
  unfold runF retO
  cases b (slots n ds) M <;> rfl
@[simp] theorem retO_ret {d : D} : retO (.ret d M) = .ok d M := id rfl
@[simp] theorem retO_exc {c : Nat} {d : D} : retO (.exc c d e M) = .exc c d M := id rfl
@[simp] theorem retO_next : retO (.next e M) = .ok .non M := id rfl
end
def SOut.to (o : SOut) (P : Sl → Mem → Prop) (R : D → Mem → Prop) : Prop := match o with
  | .next e M => P e M
  | .cont e M => P e M
  | .ret d M => R d M
  | _ => False
@[simp] theorem to_next {e : Sl} {M : Mem} {P : Sl → Mem → Prop} {R : D → Mem → Prop} : (SOut.next e M).to P R = P e M := id rfl
@[simp] theorem to_cont {e : Sl} {M : Mem} {P : Sl → Mem → Prop} {R : D → Mem → Prop} : (SOut.cont e M).to P R = P e M := id rfl
@[simp] theorem to_ret {d : D} {M : Mem} {P : Sl → Mem → Prop} {R : D → Mem → Prop} : (SOut.ret d M).to P R = R d M := id rfl
theorem forGo_inv {src : Option (Nat × List D)} {g : Tg} {b : MS} (P : Nat → Sl → Mem → Prop) {R : D → Mem → Prop} : ∀ (ds : List D) (k : Nat) {e : Sl} {M : Mem}, P k e M →
    (∀ i e M, k ≤ i → i ≤ k + ds.length → P i e M → SrcOk src M) →
    (∀ i d e M, ds[i]? = some d → P (k + i) e M → ∃ e1, g d e = some e1 ∧ (b e1 M).to (P (k + i + 1)) R) →
    (∃ e' M', forGo src g b ds e M = .next e' M' ∧ P (k + ds.length) e' M') ∨ ∃ r M', forGo src g b ds e M = .ret r M' ∧ R r M'
  | [], k, e, M, h0, hs, _ => .inl ⟨e, M, by unfold forGo; rw [if_pos (hs k e M (Nat.le_refl _) (Nat.le_refl _) h0)], h0⟩
  | d :: ds, k, e, M, h0, hs, hb => by
    unfold forGo
    rw [if_pos (hs k e M (Nat.le_refl _) (Nat.le_add_right _ _) h0)]
    obtain ⟨e1, hg, h⟩ := hb 0 d e M rfl h0
    rw [hg]
    have go : ∀ {e2 : Sl} {M2 : Mem}, P (k + 1) e2 M2 → (∃ e' M', forGo src g b ds e2 M2 = .next e' M' ∧ P (k + (d :: ds).length) e' M') ∨ ∃ r M', forGo src g b ds e2 M2 = .ret r M' ∧ R r M' := fun {e2 M2} p => by
      have go := forGo_inv (src := src) (g := g) (b := b) P (R := R) ds (k + 1) (e := e2) (M := M2) p
        (fun i e M h1 h2 => hs i e M (by omega) (by simp only [List.length_cons]; omega)) (fun i d e M hd hp => by
          have e4 : k + (i + 1) = k + 1 + i := by omega
          have := hb (i + 1) d e M (by simpa using hd) (by rw [e4]; exact hp)
          rw [e4] at this
          exact this)
      have el : k + 1 + ds.length = k + (d :: ds).length := by simp only [List.length_cons]; omega
      rw [el] at go
      exact go
    cases z : b e1 M with
    | next e2 M2 => rw [z] at h; simp only [z]; exact go h
    | cont e2 M2 => rw [z] at h; simp only [z]; exact go h
    | ret r M2 => rw [z] at h; simp only [z]; exact .inr ⟨r, M2, rfl, h⟩
    | brk _ _ => rw [z] at h; exact h.elim
    | exc _ _ _ _ => rw [z] at h; exact h.elim
    | bad => rw [z] at h; exact h.elim
theorem forGo_end {src : Option (Nat × List D)} {g : Tg} {b : MS} (P : Nat → Sl → Mem → Prop) {ds : List D} {e : Sl} {M : Mem} (h0 : P 0 e M)
    (hs : ∀ i e M, i ≤ ds.length → P i e M → SrcOk src M)
    (hb : ∀ i d e M, ds[i]? = some d → P i e M → ∃ e1, g d e = some e1 ∧ (b e1 M).to (P (i + 1)) fun _ _ => False) :
    ∃ e' M', forGo src g b ds e M = .next e' M' ∧ P ds.length e' M' := by
  rcases forGo_inv (src := src) (g := g) (b := b) P (R := fun _ _ => False) ds 0 h0 (fun i e M _ h2 => hs i e M (by omega)) (fun i d e M hd hp => by
    rw [Nat.zero_add] at hp ⊢
    exact hb i d e M hd hp) with h | ⟨_, _, _, h⟩
  · simpa using h
  · exact h.elim
theorem rng_get {lo : Int} {n i : Nat} {d : D} (h : (rng lo n)[i]? = some d) : i < n ∧ d = .int (lo + i) := by
  unfold rng at h
  rw [List.getElem?_map] at h
  obtain ⟨k, hk, rfl⟩ := Option.map_eq_some_iff.mp h
  obtain ⟨hi, e⟩ := List.getElem?_eq_some_iff.mp hk
  simp at hi e
  exact ⟨hi, by rw [← e]⟩
theorem rng_len {lo : Int} {n : Nat} : (rng lo n).length = n := by simp [rng]
end S
namespace S
open PySem PySem.Spec PyProof.Rows L2
section
variable {X : Cx} {ct : Nat → Addr} {W : XWish}
end
end S
namespace S
open PySem PySem.Spec PyProof.Rows L2
def enumD (i : Int) : List D → List D
  | [] => []
  | d :: r => .tup [.int i, d] :: enumD (i + 1) r
def enumOf (d k : D) (M : Mem) : Out Itm := match k with
  | .int i => match d with
    | .ref n => match lstOf M n with
      | some ds => .ok ⟨some (n, ds), enumD i ds⟩ M
      | none => .bad
    | .cl ds => .ok ⟨none, enumD i ds⟩ M
    | .tup ds => .ok ⟨none, enumD i ds⟩ M
    | _ => .bad
  | _ => .bad
def mEnum (ma mb : ME) : MI := fun e M => (ma e M).bind fun d M1 => (mb e M1).bind fun k M2 => enumOf d k M2
section
variable {X : Cx} {ct : Nat → Addr} {W : XWish}
@[simp] theorem mEnum_ap {ma mb : ME} {e : Sl} {M : Mem} : mEnum ma mb e M = (ma e M).bind fun d M1 => (mb e M1).bind fun k M2 => enumOf d k M2 := id rfl
@[simp] theorem enumOf_tup {M : Mem} {ds : List D} {i : Int} : enumOf (.tup ds) (.int i) M = .ok ⟨none, enumD i ds⟩ M := id rfl
end
end S
namespace S
open PySem PySem.Spec PyProof.Rows L2
section
variable {X : Cx} {ct : Nat → Addr} {W : XWish}
def one (ds : List D) (c : Nat) (e : Sl) (M : Mem) : SOut := match ds with
  | [d] => .exc c d e M
  | _ => .bad
def sRz (c : Nat) (ms : MA) : MS := fun e M => ofE e (ms e M) fun ds M1 => one ds c e M1
def XmAll (K : PySem.W.Frag) (ct : Nat → Addr) (cv : Value) : List (Nat × Bool) → Prop
  | [] => True
  | (c, b) :: r => PySem.W.exmOne K (.ref (ct c)) cv = some b ∧ XmAll K ct cv r
theorem XmAll.get {K : PySem.W.Frag} {cv : Value} : ∀ {cl : List (Nat × Bool)} {c : Nat} {b : Bool}, XmAll K ct cv cl → cl.lookup c = some b → PySem.W.exmOne K (.ref (ct c)) cv = some b
  | [], _, _, _, h => by simp at h
  | (k, b') :: r, c, b, ⟨h1, h2⟩, h => by
    rw [List.lookup_cons] at h
    cases z : c == k with
    | true => rw [z] at h; cases h; cases (beq_iff_eq.mp z); exact h1
    | false => rw [z] at h; exact h2.get h
def SOut.noX (o : SOut) : SOut := match o with
  | .exc _ _ _ _ => .bad
  | o => o
def SOut.less (i : Nat) (o : SOut) : SOut := match o with
  | .next e M => .next (e.set i none) M
  | .brk e M => .brk (e.set i none) M
  | .cont e M => .cont (e.set i none) M
  | .ret d M => .ret d M
  | .exc _ _ _ _ => .bad
  | .bad => .bad
def tryO (cl : List (Nat × Bool)) (h : Nat → D → Sl → Mem → SOut) (o : SOut) : SOut := match o with
  | .exc c d e M => match cl.lookup c with
    | some true => h c d e M
    | some false => .exc c d e M
    | none => .bad
  | o => o
def sTry (cl : List (Nat × Bool)) (b s : MS) : MS := fun e M => tryO cl (fun _ _ e' M' => (s e' M').noX) (b e M)
def sTryAs (i : Nat) (cl : List (Nat × Bool)) (b s : MS) : MS := fun e M => tryO cl (fun c d e' M' => (s (e'.set i (some (.exc c d))) M').less i) (b e M)
theorem PostS.noX {K : PySem.W.Frag} {ι : Nat → Addr} {n : Nat} {H : Hp} {o : SOut} {T : Ends} (h : PostS K ct W ι n H o.noX T) : PostS K ct W0 ι n H o T := by
  cases o with
  | exc c d e M => exact False.elim h
  | next e M => exact h
  | ret e M => exact h
  | brk e M => exact h
  | cont e M => exact h
  | bad => exact h
theorem PostS.less {K : PySem.W.Frag} {ι : Nat → Addr} {n i : Nat} {H : Hp} {o : SOut} {T : Ends} (h : PostS K ct W ι n H (o.less i) T) : PostS K ct W0 ι n H o (Ends.less T i) := by
  cases o with
  | exc c d e M => exact False.elim h
  | next e M => exact fun ι' σ' H' x w => h ι' _ H' x (w.clear i)
  | ret e M => exact h
  | brk e M => exact fun ι' σ' H' x w => h ι' _ H' x (w.clear i)
  | cont e M => exact fun ι' σ' H' x w => h ι' _ H' x (w.clear i)
  | bad => exact h
variable {c : Str} {cp hpos pos : Pos} {b₀ : Stmt} {suite body : List Stmt} {b s : MS} {cl : List (Nat × Bool)} {cv : Value} {v : V}
def XAll (K : PySem.W.Frag) (ct : Nat → Addr) : List Nat → Prop
  | [] => True
  | c :: r => (XCls K (ct c) "at" ∧ XIs K (ct c)) ∧ XAll K ct r
theorem XAll.get {K : PySem.W.Frag} : ∀ {cs : List Nat} {c : Nat}, XAll K ct cs → c ∈ cs → XCls K (ct c) "at" ∧ XIs K (ct c)
  | [], _, _, h => by simp at h
  | c :: cs, d, ⟨a, r⟩, h => by
    rcases List.mem_cons.mp h with e | e
    · subst e; exact a
    · exact r.get e
def xatOf (cs : List Nat) (d : D) (M : Mem) : Out D := match d with
  | .exc c x => if c ∈ cs then .ok x M else .bad
  | _ => .bad
def mXat (cs : List Nat) (m : ME) : ME := fun e M => (m e M).bind (xatOf cs)
def KiAll (K : PySem.W.Frag) (ct : Nat → Addr) (cv : Value) : List (Nat × Bool) → Prop
  | [] => True
  | (c, b) :: r => (PySem.W.kitOne K (.ref (ct c)) cv = some b ∧ XCls K (ct c) "at" ∧ XIs K (ct c)) ∧ KiAll K ct cv r
theorem KiAll.get {K : PySem.W.Frag} {cv : Value} : ∀ {cl : List (Nat × Bool)} {c : Nat} {b : Bool}, KiAll K ct cv cl → cl.lookup c = some b → PySem.W.kitOne K (.ref (ct c)) cv = some b ∧ XCls K (ct c) "at" ∧ XIs K (ct c)
  | [], _, _, _, h => by simp at h
  | (k, b') :: r, c, b, ⟨h1, h2⟩, h => by
    rw [List.lookup_cons] at h
    cases z : c == k with
    | true => rw [z] at h; cases h; cases (beq_iff_eq.mp z); exact h1
    | false => rw [z] at h; exact h2.get h
def sXis (k : D) (cl : List (Nat × Bool)) : OpN := fun ds M => match ds with
  | [.exc c _, .cls k'] => match k with
    | .cls k => if k = k' then (match cl.lookup c with
      | some b => .ok (.bl b) M
      | none => .bad) else .bad
    | _ => .bad
  | [.exc c _, .ty n'] => match k with
    | .ty n => if n = n' then (match cl.lookup c with
      | some b => .ok (.bl b) M
      | none => .bad) else .bad
    | _ => .bad
  | _ => .bad
end
section
variable {e : Sl} {M : Mem} {c : Nat} {d : D}
@[simp] theorem sRz_ap {ms : MA} : sRz c ms e M = ofE e (ms e M) fun ds M1 => one ds c e M1 := id rfl
@[simp] theorem one_ap : one [d] c e M = .exc c d e M := id rfl
@[simp] theorem sTry_ap {cl : List (Nat × Bool)} {b s : MS} : sTry cl b s e M = tryO cl (fun _ _ e' M' => (s e' M').noX) (b e M) := id rfl
@[simp] theorem sTryAs_ap {i : Nat} {cl : List (Nat × Bool)} {b s : MS} : sTryAs i cl b s e M = tryO cl (fun c d e' M' => (s (e'.set i (some (.exc c d))) M').less i) (b e M) := id rfl
@[simp] theorem tryO_next {cl : List (Nat × Bool)} {h : Nat → D → Sl → Mem → SOut} : tryO cl h (.next e M) = .next e M := id rfl
@[simp] theorem tryO_ret {cl : List (Nat × Bool)} {h : Nat → D → Sl → Mem → SOut} : tryO cl h (.ret d M) = .ret d M := id rfl
@[simp] theorem noX_next : (SOut.next e M).noX = .next e M := id rfl
@[simp] theorem noX_ret : (SOut.ret d M).noX = .ret d M := id rfl
@[simp] theorem less_next {i : Nat} : (SOut.next e M).less i = .next (e.set i none) M := id rfl
@[simp] theorem less_ret {i : Nat} : (SOut.ret d M).less i = .ret d M := id rfl
@[simp] theorem mXat_ap {cs : List Nat} {m : ME} : mXat cs m e M = (m e M).bind (xatOf cs) := id rfl
@[simp] theorem xatOf_ap {cs : List Nat} : xatOf cs (.exc c d) M = if c ∈ cs then .ok d M else .bad := id rfl
@[simp] theorem sXis_cls {k : Nat} {cl : List (Nat × Bool)} : sXis (.cls k) cl [.exc c d, .cls k] M = match cl.lookup c with
    | some b => .ok (.bl b) M
    | none => .bad := by simp [sXis]
@[simp] theorem sXis_ty {k : String} {cl : List (Nat × Bool)} : sXis (.ty k) cl [.exc c d, .ty k] M = match cl.lookup c with
    | some b => .ok (.bl b) M
    | none => .bad := by simp [sXis]
end
end S
namespace S
open PySem PySem.Spec PyProof.Rows L2
section
variable {X : Cx} {ct : Nat → Addr} {W : XWish}
def xmkOf (c : Nat) (ds : List D) (M : Mem) : Out D := match ds with
  | [d] => .ok (.exc c d) M
  | _ => .bad
def mXmk (c : Nat) (ms : MA) : ME := fun e M => (ms e M).bind (xmkOf c)
@[simp] theorem mXmk_ap {e : Sl} {M : Mem} {c : Nat} {ms : MA} : mXmk c ms e M = (ms e M).bind (xmkOf c) := id rfl
@[simp] theorem xmkOf_ap {M : Mem} {c : Nat} {d : D} : xmkOf c [d] M = .ok (.exc c d) M := id rfl
end
end S
namespace S
open PySem L2
end S
namespace S
open PySem PySem.Spec PyProof.Rows L2
section
variable {X : Cx} {ct : Nat → Addr} {W : XWish} {pos : Pos}
def mDNew : ME := fun _ M => .ok (.ref M.length) (M ++ [.dk []])
theorem se_dnew : SE X ct W (.Dict [] [] pos) mDNew := se_of pe_dnewK fun σ H Q ⟨ι, e, M, w, p⟩ pp hp => by
  have el : (M ++ [MO.dk []]).length = M.length + 1 := by simp
  have x : Ext X.K ι M.length H (inew ι M.length pp) (M.length + 1) (upd H pp (.dK [])) := Ext.new hp
  have e0 : (inew ι M.length pp) M.length = pp := by unfold inew; rw [if_pos rfl]
  have dv : DV X.K ct (inew ι M.length pp) (M ++ [MO.dk []]).length (upd H pp (.dK [])) (.ref M.length) (.ref pp) := by
    have := DV.ref (K := X.K) (ct := ct) (ι := inew ι M.length pp) (n := (M ++ [MO.dk []]).length) (H := upd H pp (.dK [])) (i := M.length) (by rw [el]; omega)
    rw [e0] at this
    exact this
  exact p (inew ι M.length pp) (.ref pp) _ (by rw [el]; exact x) (w.rl.new hp ⟨[], upd_same, .nil⟩) dv
def isDic (d : D) (M : Mem) : Bool := match d with
  | .ref n => match M[n]? with
    | some (.dk _) => true
    | some (.dt _) => true
    | _ => false
  | _ => false
theorem isDic_ok {K : PySem.W.Frag} {ι : Nat → Addr} {M : Mem} {H : Hp} {d : D} {v : V} (R : Rl K ct ι M H) (h : isDic d M = true) (q : DV K ct ι M.length H d v) : ∃ n, d = .ref n ∧ n < M.length ∧ v = .ref (ι n) ∧ IsD H (ι n) := by
  cases d with
  | ref n =>
    obtain ⟨hn, rfl⟩ := dv_ref q
    refine ⟨n, rfl, hn, rfl, ?_⟩
    unfold isDic at h
    dsimp only at h
    split at h
    · rename_i kvs e
      obtain ⟨vs, hH, _⟩ := R.obj n _ e
      exact .inl ⟨vs, .inl hH⟩
    · rename_i kvs e
      obtain ⟨vs, hH, _⟩ := R.obj n _ e
      exact .inr ⟨vs, .inl hH⟩
    · cases h
  | _ => exact absurd h Bool.false_ne_true
def getO (d k x : D) (M : Mem) : Out D := match d with
  | .ref n => match dSee M n k with
    | some (some v, M') => .ok v M'
    | some (none, M') => .ok x M'
    | none => .bad
  | _ => .bad
def mGet2 (mo mk mx : ME) : ME := fun e M => (mo e M).bind fun d M1 => if isDic d M1 = true then (mk e M1).bind fun k M2 => (mx e M2).bind fun x M3 => getO d k x M3 else .bad
def mGet1 (mo mk : ME) : ME := fun e M => (mo e M).bind fun d M1 => if isDic d M1 = true then (mk e M1).bind fun k M2 => getO d k .non M2 else .bad
theorem getO_ok {ι : Nat → Addr} {M : Mem} {H : Hp} {n : Nat} {k x : D} {vk vx : V} {Q : VK} {w : XW} (R : Rl X.K ct ι M H) (hn : n < M.length) (qk : DV X.K ct ι M.length H k vk) (qx : DV X.K ct ι M.length H x vx) (p : PostG (relD X.K ct) X.K ct w ι M.length H (getO (.ref n) k x M) Q) :
    ∃ o H', DSee H (ι n) vk o H' ∧ Q (o.getD vx) H' := by
  simp only [getO] at p
  split at p
  · rename_i v M' e
    obtain ⟨ov, H', g, x2, R', h1, _⟩ := dSee_ok R e hn qk
    obtain ⟨u, rfl, dv, _, _⟩ := h1 v rfl
    exact ⟨_, H', g, p ι u H' x2 R' dv⟩
  · rename_i M' e
    obtain ⟨ov, H', g, x2, R', _, h2⟩ := dSee_ok R e hn qk
    have := h2 rfl
    subst this
    exact ⟨_, H', g, p ι vx H' x2 R' (qx.mono x2)⟩
  · exact p.elim
variable {o e f i value : Expr} {mo mk mx mv : ME} {apos cpos pos' : Pos}
theorem se_get2 (hu : X.A.units + 64 < cLine) (ho : SE X ct W o mo) (he : SE X ct W e mk) (hf : SE X ct W f mx)
    (base : attributeBase o "get" X.env (eval o X.env) = eval o X.env := by rfl)
    (few : ((backTo cpos (starEach [e, f] X.env)).all (fun x => !x.1) && (backToKw cpos (keywordEach [] X.env)).all (fun x => x.1.isSome)
      && decide (([e, f] : List Expr).length + ([] : List Keyword).length + (if ([] : List Keyword).isEmpty then 0 else 1) < 30)) = true := by rfl)
    (line : (apos.endLine == cpos.line) = true := by rfl) (trees : backTo cpos (starEach [e, f] X.env) = [(false, eval e X.env), (false, eval f X.env)] := by rfl) :
    SE X ct W (.Call (.Attribute o "get" apos) [e, f] [] cpos) (mGet2 mo mk mx) := se_of (pe_dsee2 (by omega) ho he hf ⟨base, few, line, trees⟩) fun σ H Q q => by
  obtain ⟨ι, e, M, w, p⟩ := tG_bind (relα := relD X.K ct) (f := fun d e M1 => if isDic d M1 = true then (mk e M1).bind fun k M2 => (mx e M2).bind fun x M3 => getO d k x M3 else .bad) q
  refine ⟨ι, e, M, w, p.mono fun v H1 ⟨ι1, e1, M1, d, w1, q1, p1⟩ => ?_⟩
  cases z : isDic d M1 with
  | false => simp only [z, Bool.false_eq_true, if_false] at p1; exact p1.elim
  | true =>
    simp only [z, if_true] at p1
    obtain ⟨n, rfl, hn, rfl, hD⟩ := isDic_ok w1.rl z q1
    refine ⟨_, rfl, hD, ι1, e1, M1, w1, ?_⟩
    cases z2 : mk e1 M1 with
    | bad => simp only [z2, Out.bind_bad] at p1; exact p1
    | exc xc xd xM => simp only [z2, Out.bind_exc] at p1; exact p1
    | ok k M2 =>
      simp only [z2, Out.bind_ok] at p1
      intro ι2 vk H2 x2 r2 q2
      refine ⟨ι2, e1, M2, w1.ext x2 r2, ?_⟩
      have p2 := p1.ext x2
      cases z3 : mx e1 M2 with
      | bad => simp only [z3, Out.bind_bad] at p2; exact p2
      | exc xc xd xM => simp only [z3, Out.bind_exc] at p2; exact p2
      | ok x M3 =>
        simp only [z3, Out.bind_ok] at p2
        intro ι3 vx H3 x3 r3 q3
        have := getO_ok r3 (Nat.lt_of_lt_of_le (Nat.lt_of_lt_of_le hn x2.le) x3.le) (q2.mono x3) q3 (p2.ext x3)
        rw [← x2.same n hn, ← x3.same n (Nat.lt_of_lt_of_le hn x2.le)]
        exact this
def dPut (M : Mem) (o k d : D) : Option Mem := match o with
  | .ref n => match M[n]? with
    | some (.dk kvs) => match toKey k with
      | some kk => if kvs.length < sizeLine then some (M.set n (.dk (putG kvs kk d))) else none
      | none => match k with
        | .tup ds => match toKeys ds with
          | some ks => if kvs.isEmpty = true then some (M.set n (.dt [(ks, d)])) else none
          | none => none
        | _ => none
    | some (.dt kvs) => match k with
      | .tup ds => match toKeys ds with
        | some ks => if kvs.length < sizeLine then some (M.set n (.dt (putG kvs ks d))) else none
        | none => none
      | _ => none
    | _ => none
  | _ => none
theorem dPut_ok {ι : Nat → Addr} {M M' : Mem} {H : Hp} {n : Nat} {k d : D} {vk vd : V} (R : Rl X.K ct ι M H) (h : dPut M (.ref n) k d = some M') (hn : n < M.length) (qk : DV X.K ct ι M.length H k vk) (qd : DV X.K ct ι M.length H d vd) :
    ∃ H', DSet H (ι n) vk vd H' ∧ Ext X.K ι M.length H ι M'.length H' ∧ Rl X.K ct ι M' H' := by
  simp only [dPut] at h
  split at h
  · rename_i kvs e
    obtain ⟨vs, hH, pv⟩ := R.obj n _ e
    split at h
    · rename_i kk ek
      split at h
      · rename_i hz
        cases h
        have := toKey_dv ek qk
        subst this
        have x2 : Ext X.K ι M.length H ι M.length (upd H (ι n) (.dK (putK vs kk vd))) := Ext.chg hH (fun _ z => nomatch z) (fun _ _ z => nomatch z)
        exact ⟨_, .inl (DPut.k hH (by rw [pv.length]; exact hz)), by rw [List.length_set]; exact x2, R.chg hn hH (fun _ z => nomatch z) (fun _ _ z => nomatch z) ⟨_, upd_same, (pv.put qd kk).mono x2⟩⟩
      · cases h
    · split at h
      · rename_i ds
        split at h
        · rename_i ks eks
          split at h
          · rename_i hem
            cases h
            have ek : kvs = [] := List.isEmpty_iff.mp hem
            subst ek
            cases pv
            obtain ⟨b, xs, rfl, hb, hd⟩ := dv_tupH qk
            have ex := toKeys_dv eks hd
            subst ex
            have x2 : Ext X.K ι M.length H ι M.length (upd H (ι n) (.dT [(ks, vd)])) := Ext.chg hH (fun _ z => nomatch z) (fun _ _ z => nomatch z)
            exact ⟨_, .inr ⟨ks, b, hH, rfl, hb, rfl⟩, by rw [List.length_set]; exact x2, R.chg hn hH (fun _ z => nomatch z) (fun _ _ z => nomatch z) ⟨_, upd_same, .cons (qd.mono x2) .nil⟩⟩
          · cases h
        · cases h
      · cases h
  · rename_i kvs e
    obtain ⟨vs, hH, pv⟩ := R.obj n _ e
    split at h
    · rename_i ds
      split at h
      · rename_i ks eks
        split at h
        · rename_i hz
          cases h
          obtain ⟨b, xs, rfl, hb, hd⟩ := dv_tupH qk
          have ex := toKeys_dv eks hd
          subst ex
          have x2 : Ext X.K ι M.length H ι M.length (upd H (ι n) (.dT (putK vs ks vd))) := Ext.chg hH (fun _ z => nomatch z) (fun _ _ z => nomatch z)
          exact ⟨_, .inl (DPut.t hH hb (by rw [pv.length]; exact hz)), by rw [List.length_set]; exact x2, R.chg hn hH (fun _ z => nomatch z) (fun _ _ z => nomatch z) ⟨_, upd_same, (pv.put qd ks).mono x2⟩⟩
        · cases h
      · cases h
    · cases h
  · cases h
def sDSetS (mo mk mv : ME) : MS := fun e M => ofE e (mv e M) fun d M1 => ofE e (mo e M1) fun o M2 => ofE e (mk e M2) fun k M3 => memO (dPut M3 o k d) e
theorem ss_dset (hu : X.A.units + 64 < cLine) (ho : SE X ct W o mo) (hi : SE X ct W i mk) (hv : SE X ct W value mv) (hs : swapsWith value (some (.Subscript o i pos')) pos.line X.env = pure false := by rfl) :
    SS X ct W (.Assign [.Subscript o i pos'] value pos) (sDSetS mo mk mv) := PS.imp (ps_dset (by omega) ho hi hv hs) fun T σ H q => by
  obtain ⟨ι, e, M, w, p⟩ := tS_bind (rel := relD X.K ct) (f := fun d e M1 => ofE e (mo e M1) fun o M2 => ofE e (mk e M2) fun k M3 => memO (dPut M3 o k d) e) q
  refine ⟨ι, e, M, w, p.mono fun vd H1 ⟨ι1, e1, M1, d, w1, q1, p1⟩ => ⟨ι1, e1, M1, w1, ?_⟩⟩
  cases z : mo e1 M1 with
  | bad => simp only [z, ofE_bad] at p1; exact p1
  | exc xc xd xM => simp only [z, ofE_exc] at p1; exact fun ι2 dx v H2 x r q1 q2 => p1 ι2 σ dx v H2 x (w1.ext x r) q1 q2
  | ok o' M2 =>
    simp only [z, ofE_ok] at p1
    intro ι2 vo H2 x2 r2 q2
    have p2 := p1.ext x2
    have w2 := w1.ext x2 r2
    refine ⟨ι2, e1, M2, w2, ?_⟩
    cases z2 : mk e1 M2 with
    | bad => simp only [z2, ofE_bad] at p2; exact p2
    | exc xc xd xM => simp only [z2, ofE_exc] at p2; exact fun ι3 dx v H3 x r q1 q2 => p2 ι3 σ dx v H3 x (w2.ext x r) q1 q2
    | ok k M3 =>
      simp only [z2, ofE_ok] at p2
      intro ι3 vk H3 x3 r3 q3
      have p3 := p2.ext x3
      have w3 := w2.ext x3 r3
      cases z3 : dPut M3 o' k d with
      | none => rw [z3] at p3; exact p3.elim
      | some M4 =>
        rw [z3] at p3
        cases o' with
        | ref n =>
          obtain ⟨hn, rfl⟩ := dv_ref q2
          have hn3 : n < M3.length := Nat.lt_of_lt_of_le hn x3.le
          obtain ⟨H4, g, x4, r4⟩ := dPut_ok r3 z3 hn3 q3 ((q1.mono x2).mono x3)
          refine ⟨_, H4, rfl, ?_, p3 ι3 σ H4 x4 (w3.ext x4 r4)⟩
          rw [← x3.same n hn]
          exact g
        | _ => simp only [dPut] at z3; cases z3
end
section
variable {e : Sl} {M : Mem}
@[simp] theorem mDNew_ap : mDNew e M = .ok (.ref M.length) (M ++ [.dk []]) := id rfl
@[simp] theorem mGet2_ap {mo mk mx : ME} : mGet2 mo mk mx e M = (mo e M).bind fun d M1 => if isDic d M1 = true then (mk e M1).bind fun k M2 => (mx e M2).bind fun x M3 => getO d k x M3 else .bad := id rfl
@[simp] theorem mGet1_ap {mo mk : ME} : mGet1 mo mk e M = (mo e M).bind fun d M1 => if isDic d M1 = true then (mk e M1).bind fun k M2 => getO d k .non M2 else .bad := id rfl
@[simp] theorem sDSetS_ap {mo mk mv : ME} : sDSetS mo mk mv e M = ofE e (mv e M) fun d M1 => ofE e (mo e M1) fun o M2 => ofE e (mk e M2) fun k M3 => memO (dPut M3 o k d) e := id rfl
theorem isDic_k {n : Nat} {kvs : List (Key × D)} (h : M[n]? = some (.dk kvs)) : isDic (.ref n) M = true := by simp only [isDic, h]
theorem dSee_s {n : Nat} {kvs : List (Key × D)} {s : Str} (h : M[n]? = some (.dk kvs)) : dSee M n (.str s) = some (valD kvs (.inr s), M) := by simp only [dSee, h, toKey]
theorem dSee_t {n : Nat} {kvs : List (List Key × D)} {ds : List D} {ks : List Key} (h : M[n]? = some (.dt kvs)) (hk : toKeys ds = some ks) : dSee M n (.tup ds) = some (valD kvs ks, M) := by simp only [dSee, h, hk]
theorem dSee_e {n : Nat} {ds : List D} {ks : List Key} (h : M[n]? = some (.dk [])) (hk : toKeys ds = some ks) : dSee M n (.tup ds) = some (none, M.set n (.dt [])) := by simp only [dSee, h, hk, toKey]; rfl
end
end S
namespace S
open PySem L2
variable {M : Mem}
end S
namespace S
open PySem PySem.Spec PyProof.Rows L2
section
variable {X : Cx} {ct : Nat → Addr} {W : XWish} {pos : Pos}
def PostN (K : PySem.W.Frag) (ct ι : Nat → Addr) (M : Mem) (H : Hp) (n : Nat) (σ : St) (o : Option Sl) (Q : St → Hp → Prop) : Prop := match o with
  | some e' => ∀ σ', Ws K ct ι e' M σ' H → (σ'.length = σ.length ∧ σ'.drop n = σ.drop n) → Q σ' H
  | none => False
def tTN (K : PySem.W.Frag) (ct : Nat → Addr) (n : Nat) (g : Tg) : TG := fun v σ H Q => ∃ ι e M d, Ws K ct ι e M σ H ∧ DV K ct ι M.length H d v ∧ PostN K ct ι M H n σ (g d e) Q
def tTNs (K : PySem.W.Frag) (ct : Nat → Addr) (n : Nat) (g : Tgs) : TGs := fun vs σ H Q => ∃ ι e M ds, Ws K ct ι e M σ H ∧ DVs K ct ι M.length H ds vs ∧ PostN K ct ι M H n σ (g ds e) Q
def SN (X : Cx) (ct : Nat → Addr) (n : Nat) (tg : Expr) (g : Tg) : Prop := PG X tg (tTN X.K ct n g)
def SNs (X : Cx) (ct : Nat → Addr) (n : Nat) (tg : List Expr) (g : Tgs) : Prop := PGs X tg (tTNs X.K ct n g)
theorem sn_name {n i : Nat} {x : Str} (hN : X.N.Nodup) (hi : X.N[i]? = some x) (hx : Loc X.env.scope x) (hin : i < n) (hf : X.fn x = true ∨ X.env.scope.names.lookup x = some .local := by first | exact .inl rfl | exact .inr rfl | assumption) : SN X ct n (.Name x pos) (gN i) :=
  PG.imp (pg_name hN hi hx hf) fun v σ H Q ⟨ι, e, M, d, w, q, p⟩ => p _ (w.set i q) ⟨List.length_set, List.drop_set_of_lt hin⟩
theorem sns_nil {n : Nat} : SNs X ct n [] gNil' := PGs.imp pgs_nil fun vs σ H Q ⟨ι, e, M, ds, w, q, p⟩ => by
  cases q with
  | nil => exact ⟨rfl, p σ w ⟨rfl, rfl⟩⟩
  | cons _ _ => exact p.elim
theorem sns_cons {n : Nat} {a : Expr} {es : List Expr} {g : Tg} {gs : Tgs} (h1 : SN X ct n a g) (h2 : SNs X ct n es gs)
    (hs : (assignEach (a :: es) X.env).map (·.2) = assign a X.env :: (assignEach es X.env).map (·.2) := by rfl) : SNs X ct n (a :: es) (gCons' g gs) := PGs.imp (pgs_cons h1 h2 hs) fun vs σ H Q ⟨ι, e, M, ds, w, q, p⟩ => by
  cases q with
  | nil => exact p.elim
  | @cons d x ds xs h hs =>
    refine ⟨x, xs, rfl, ι, e, M, d, w, h, ?_⟩
    simp only [gCons'] at p
    cases z : g d e with
    | none => rw [z] at p; exact p.elim
    | some e' =>
      rw [z] at p
      refine fun σ' w' hd => ⟨ι, e', M, ds, w', hs, ?_⟩
      simp only [Option.bind_some] at p
      cases z2 : gs ds e' with
      | none => rw [z2] at p; exact p.elim
      | some e2 => rw [z2] at p; exact fun σ2 w2 hd2 => p σ2 w2 ⟨hd2.1.trans hd.1, hd2.2.trans hd.2⟩
theorem sn_tup {m : Nat} {es : List Expr} {k : Nat} {gs : Tgs} {n : Nat} (hc : X.calm = true) (h : SNs X ct m es gs)
    (hn : (assignEach es X.env).length = n := by rfl) (hst : (assignEach es X.env).findIdx? (·.1) = none := by rfl) : SN X ct m (.Tuple es k pos) (gT n gs) := PG.imp (pg_tup hc h hn hst) fun v σ H Q ⟨ι, e, M, d, w, q, p⟩ => by
  cases q with
  | @tup a xs ds hs hd =>
    simp only [gT] at p
    split at p
    · rename_i hl
      exact ⟨a, xs, rfl, SqT.of hs, by rw [hd.length]; exact hl, ι, e, M, ds, w, hd, p⟩
    · exact p.elim
  | _ => exact p.elim
def nosE (n : Nat) : Sl := List.replicate n none
noncomputable def cpGoT (src : Option (Nat × List D)) (g : Tg) (n : Nat) (tt : MT) (te : ME) (ce : Sl) : List D → List D → Mem → Out D
  | [], ys, M => if SrcOk src M then .ok (.ref M.length) (M ++ [.lst ys]) else .bad
  | d :: ds, ys, M => if SrcOk src M then match g d (nosE n ++ ce) with
      | some e1 => (tt e1 M).noX.bind fun k M1 => if k = true then (te e1 M1).noX.bind fun y M2 => cpGoT src g n tt te ce ds (ys ++ [y]) M2 else cpGoT src g n tt te ce ds ys M1
      | none => .bad
    else .bad
noncomputable def mCompT (n : Nat) (js : List Nat) (mi : MI) (g : Tg) (tt : MT) (te : ME) : ME := fun e M => (mi e M).bind fun it M1 => cpGoT it.src g n tt te (capE js e) it.ds [] M1
theorem Ws.capsN {K : PySem.W.Frag} {ι : Nat → Addr} {e : Sl} {M : Mem} {σ : St} {H : Hp} (w : Ws K ct ι e M σ H) (xs : List Str) (js : List Nat) : Ws K ct ι (nosE xs.length ++ capE js e) M (nos xs ++ L2.caps js σ) H := by
  refine ⟨w.rl, by simp [capE, L2.caps, nosE, nos], fun i x hx => ?_⟩
  rcases Nat.lt_or_ge i xs.length with q | q
  · rw [List.getElem?_append_left (by simpa [nosE] using q)] at hx
    simp [nosE, q] at hx
  · rw [List.getElem?_append_right (by simpa [nosE] using q)] at hx
    rw [List.getElem?_append_right (by simpa [nos] using q)]
    have l1 : (nosE xs.length).length = xs.length := by simp [nosE]
    have l2 : (nos xs).length = xs.length := by simp [nos]
    rw [l1] at hx
    rw [l2]
    simp only [capE, List.getElem?_map] at hx
    obtain ⟨j, hj, ej⟩ := Option.map_eq_some_iff.mp hx
    cases z : e[j]? with
    | none => rw [z] at ej; cases ej
    | some o =>
      rw [z] at ej
      cases (show o = some x from ej)
      obtain ⟨u, hu, du⟩ := w.env j x z
      refine ⟨u, ?_, du⟩
      simp only [L2.caps, List.getElem?_map, hj, Option.map_some, hu]
      rfl
theorem tCompT_of {xs : List Str} {js : List Nat} {mi : MI} {g : Tg} {tt : MT} {te : ME} {σ : St} {H : Hp} {Q : VK} (h : tG (relD X.K ct) X.K ct W (mCompT xs.length js mi g tt te) σ H Q) : tCompT xs js (tG (relI X.K ct) X.K ct W mi) (tTN X.K ct xs.length g) (tG relB X.K ct W0 tt) (tG (relD X.K ct) X.K ct W0 te) σ H Q := by
  obtain ⟨ι, e, M, w, p⟩ := tG_bind (relα := relI X.K ct) (f := fun it e M1 => cpGoT it.src g xs.length tt te (capE js e) it.ds [] M1) h
  refine ⟨ι, e, M, w, p.mono fun J H1 ⟨ι1, e1, M1, it, w1, q1, p1⟩ => ?_⟩
  obtain ⟨ok1, hz, step⟩ := q1
  refine ⟨fun i m ys H' => m = it.ds.length - i ∧ i ≤ it.ds.length ∧ ys.length ≤ i ∧ ∃ ι' M' ds', Ext X.K ι1 M1.length H1 ι' M'.length H' ∧ Rl X.K ct ι' M' H' ∧ DVs X.K ct ι' M'.length H' ds' ys ∧ PostG (relD X.K ct) X.K ct (wAt W σ) ι' M'.length H' (cpGoT it.src g xs.length tt te (capE js e1) (it.ds.drop i) ds' M') Q,
    ⟨it.ds.length, by simp, Nat.zero_le _, Nat.le_refl _, ι1, M1, [], .refl, w1.rl, .nil, by simpa using p1⟩, ?_⟩
  rintro i m ys H' ⟨rfl, hi, hy, ι', M', ds', x', r', dy, p'⟩
  by_cases hlt : i < it.ds.length
  · rw [List.drop_eq_getElem_cons hlt] at p'
    unfold cpGoT at p'
    by_cases ok' : SrcOk it.src M'
    · rw [if_pos ok'] at p'
      obtain ⟨go, yl⟩ := (step ι' M' H' x' r' ok' i).1 _ (List.getElem?_eq_getElem hlt)
      refine .inr ⟨go, fun ys2 H2 => ys2.length ≤ i + 1 ∧ ∃ ι2 M2 ds2, Ext X.K ι1 M1.length H1 ι2 M2.length H2 ∧ Rl X.K ct ι2 M2 H2 ∧ DVs X.K ct ι2 M2.length H2 ds2 ys2 ∧ PostG (relD X.K ct) X.K ct (wAt W σ) ι2 M2.length H2 (cpGoT it.src g xs.length tt te (capE js e1) (it.ds.drop (i + 1)) ds2 M2) Q, ?_, ?_⟩
      · rintro ys2 H2 ⟨hl2, q2⟩
        exact ⟨by omega, it.ds.length - (i + 1), by omega, rfl, hlt, hl2, q2⟩
      · intro x H2 y
        obtain ⟨x2, r2, dv⟩ := yl x H2 y
        have w2 : Ws X.K ct ι' (nosE xs.length ++ capE js e1) M' (nos xs ++ L2.caps js σ) H2 := (w1.ext (x'.trans x2) r2).capsN xs js
        have p2 := p'.ext x2
        refine ⟨ι', _, M', it.ds[i], w2, dv, ?_⟩
        cases zg : g it.ds[i] (nosE xs.length ++ capE js e1) with
        | none => rw [zg] at p2; exact p2.elim
        | some eg =>
        rw [zg] at p2
        dsimp only at p2
        intro σ' wg hd
        refine ⟨⟨hd.1, by rw [hd.2]; simp [nos]⟩, ι', eg, M', wg, ?_⟩
        cases z : tt eg M' with
        | bad => simp only [z, noX_bad, Out.bind_bad] at p2; exact p2
        | exc xc xd xM => simp only [z, noX_exc, Out.bind_bad] at p2; exact p2.elim
        | ok k M3 =>
          simp only [z, noX_ok, Out.bind_ok] at p2
          intro ι3 k3 H3 x3 r3 ek
          have hEq : k = k3 := ek; subst hEq
          have p3 := p2.ext x3
          have w3 := wg.ext x3 r3
          have dy3 := (dy.mono x2).mono x3
          cases k with
          | false => exact ⟨by omega, ι3, M3, ds', (x'.trans x2).trans x3, r3, dy3, p3⟩
          | true =>
            simp only [if_true] at p3 ⊢
            refine ⟨ι3, _, M3, w3, ?_⟩
            cases z4 : te eg M3 with
            | bad => simp only [z4, noX_bad, Out.bind_bad] at p3; exact p3
            | exc xc xd xM => simp only [z4, noX_exc, Out.bind_bad] at p3; exact p3.elim
            | ok yy M4 =>
              simp only [z4, noX_ok, Out.bind_ok] at p3
              intro ι4 v4 H4 x4 r4 d4
              exact ⟨by rw [List.length_append]; simp; omega, ι4, M4, ds' ++ [yy], ((x'.trans x2).trans x3).trans x4, r4, (dy3.mono x4).append (.cons d4 .nil), p3.ext x4⟩
    · rw [if_neg ok'] at p'
      exact p'.elim
  · have e0 : i = it.ds.length := by omega
    subst e0
    rw [List.drop_length] at p'
    unfold cpGoT at p'
    by_cases ok' : SrcOk it.src M'
    · rw [if_pos ok'] at p'
      exact .inl ⟨(step ι' M' H' x' r' ok' _).2 (Nat.le_refl _), by omega, fun pp hp => post_lst r' dy hp p'⟩
    · rw [if_neg ok'] at p'
      exact p'.elim
variable {tg elt iter : Expr} {ifs : List Expr} {scope : Scope} {mi : MI} {g : Tg} {tt : MT} {te : ME}
theorem se_compT (hc : X.calm = true) (xs cs : List Str) (js : List Nat) (hi : SI X ct W tg iter mi) (hcap : CapOk X scope cs js) (hg : ∀ cl C fp s H, SN (cxComp X scope cl C (xs ++ cs) fp s H) ct xs.length tg g) (ht : ∀ cl C fp s H, STs (cxComp X scope cl C (xs ++ cs) fp s H) ct W0 ifs tt) (he : ∀ cl C fp s H, SE (cxComp X scope cl C (xs ++ cs) fp s H) ct W0 elt te)
    (hall : ∀ y ∈ scope.names, y.2 = .free → y.1 ∈ cs) (hcell : ∀ y ∈ scope.names, y.2 ≠ .cell) (hnames : ∀ y ∈ scope.names, y.2 = .local → scope.names.lookup y.1 = some .local)
    (hkind : scope.kind = .function := by rfl) (hs : ∀ v, foldedSetIterable iter X.env v = pure v := by intro _; rfl) :
    SE X ct W (.ListComp elt [⟨tg, iter, ifs, 0⟩] scope pos) (mCompT xs.length js mi g tt te) :=
  se_of (pe_compT (g := tTN X.K ct xs.length g) (tt := tG relB X.K ct W0 tt) (te := tG (relD X.K ct) X.K ct W0 te) hc xs cs js hi hcap (fun cl C fp s H => ht cl C fp s H) (fun cl C fp s H => he cl C fp s H) hall hcell hnames (fun cl C fp s H => hg cl C fp s H) hkind hs) fun σ H Q q => tCompT_of q
theorem ss_compT {y : Str} {py spos : Pos} {k : Nat} (hc : X.calm = true) (xs cs : List Str) (js : List Nat) (hN : X.N.Nodup) (hk : X.N[k]? = some y) (hy : X.env.scope.names.lookup y = some .local) (hi : SI X ct W tg iter mi) (hcap : CapOk X scope cs js) (hg : ∀ cl C fp s H, SN (cxComp X scope cl C (xs ++ cs) fp s H) ct xs.length tg g)
    (ht : ∀ cl C fp s H, STs (cxComp X scope cl C (xs ++ cs) fp s H) ct W0 ifs tt) (he : ∀ cl C fp s H, SE (cxComp X scope cl C (xs ++ cs) fp s H) ct W0 elt te)
    (hall : ∀ y ∈ scope.names, y.2 = .free → y.1 ∈ cs) (hcell : ∀ y ∈ scope.names, y.2 ≠ .cell) (hnames : ∀ y ∈ scope.names, y.2 = .local → scope.names.lookup y.1 = some .local)
    (hsw : swapsWith (.ListComp elt [⟨tg, iter, ifs, 0⟩] scope pos) (some (.Name y py)) spos.line X.env = pure true := by rfl)
    (hkind : scope.kind = .function := by rfl) (hs : ∀ v, foldedSetIterable iter X.env v = pure v := by intro _; rfl) :
    SS X ct W (.Assign [.Name y py] (.ListComp elt [⟨tg, iter, ifs, 0⟩] scope pos) spos) (sAsg (mCompT xs.length js mi g tt te) (gN k)) :=
  PS.imp (ps_compT (g := tTN X.K ct xs.length g) (tt := tG relB X.K ct W0 tt) (te := tG (relD X.K ct) X.K ct W0 te) hc xs cs js hN hk hy hi hcap (fun cl C fp s H => ht cl C fp s H) (fun cl C fp s H => he cl C fp s H) hall hcell hnames (fun cl C fp s H => hg cl C fp s H) hsw hkind hs) fun T σ H q => tAsg_of (fun _ q => tCompT_of q) (fun v H Q ⟨ι, e, M, d, w, q, p⟩ => p _ (w.set k q)) q
end
section
variable {e : Sl} {M : Mem}
@[simp] theorem mCompT_ap {n : Nat} {js : List Nat} {mi : MI} {g : Tg} {tt : MT} {te : ME} : mCompT n js mi g tt te e M = (mi e M).bind fun it M1 => cpGoT it.src g n tt te (capE js e) it.ds [] M1 := id rfl
end
theorem cpGoT_map {src : Option (Nat × List D)} {g : Tg} {n : Nat} {tt : MT} {te : ME} {ce : Sl} {M : Mem} (c : D → Bool) (f : D → D) : ∀ {ds ys : List D}, SrcOk src M → (∀ d ∈ ds, ∃ e1, g d (nosE n ++ ce) = some e1 ∧ tt e1 M = .ok (c d) M ∧ (c d = true → te e1 M = .ok (f d) M)) →
    cpGoT src g n tt te ce ds ys M = .ok (.ref M.length) (M ++ [.lst (ys ++ (ds.filter c).map f)])
  | [], ys, hs, _ => by unfold cpGoT; rw [if_pos hs]; simp
  | d :: ds, ys, hs, h => by
    unfold cpGoT
    rw [if_pos hs]
    obtain ⟨e1, h1, h2, h3⟩ := h d List.mem_cons_self
    have ih := fun ys => cpGoT_map (src := src) (g := g) (n := n) (tt := tt) (te := te) (ce := ce) (M := M) c f (ds := ds) (ys := ys) hs fun d' hd' => h d' (List.mem_cons_of_mem _ hd')
    rw [h1]
    simp only [h2, noX_ok, Out.bind_ok]
    cases z : c d with
    | true => simp [h3 z, ih, z]
    | false => simp [ih, z]
theorem cpGo_filter {src : Option (Nat × List D)} {tt : MT} {te : ME} {ce : Sl} {M : Mem} (c : D → Bool) (f : D → D) : ∀ {ds ys : List D}, SrcOk src M → (∀ d ∈ ds, tt (some d :: ce) M = .ok (c d) M ∧ (c d = true → te (some d :: ce) M = .ok (f d) M)) →
    cpGo src tt te ce ds ys M = .ok (.ref M.length) (M ++ [.lst (ys ++ (ds.filter c).map f)])
  | [], ys, hs, _ => by unfold cpGo; rw [if_pos hs]; simp
  | d :: ds, ys, hs, h => by
    unfold cpGo
    rw [if_pos hs]
    obtain ⟨h2, h3⟩ := h d List.mem_cons_self
    have ih := fun ys => cpGo_filter (src := src) (tt := tt) (te := te) (ce := ce) (M := M) c f (ds := ds) (ys := ys) hs fun d' hd' => h d' (List.mem_cons_of_mem _ hd')
    simp only [h2, noX_ok, Out.bind_ok]
    cases z : c d with
    | true => simp [h3 z, ih, z]
    | false => simp [ih, z]
end S
namespace S
theorem bt_sorted : PySem.bootBuiltins "sorted" = some (.builtin "sorted") := by rfl
open PySem PySem.Spec PyProof.Rows L2
def partD : D → Option (List Int × Nat)
  | .int i => some ([i], 0)
  | .str s => some (tkey s, 1)
  | .tup ds => (toInts ds).map fun is => (is, is.length + 2)
  | _ => none
def partsD : List D → Option (List Int × List Nat)
  | [] => some ([], [])
  | d :: ds => match partD d, partsD ds with
    | some p, some q => some (p.1 ++ q.1, p.2 :: q.2)
    | _, _ => none
def rowD : D → Option (List Int × List Nat)
  | .tup ds => partsD ds
  | _ => none
def keyD (d : D) : List Int := match partD d with
  | some p => p.1
  | none => match rowD d with
    | some p => p.1
    | none => []
def insD (d : D) : List D → List D
  | [] => [d]
  | x :: l => if HT.lexLt (keyD x) (keyD d) = true then x :: insD d l else d :: x :: l
def srtD : List D → List D
  | [] => []
  | d :: l => insD d (srtD l)
abbrev UpD (l : List D) : Prop := l.Pairwise fun a b => HT.lexLt (keyD b) (keyD a) = false
theorem insD_perm (d : D) : ∀ l : List D, (insD d l).Perm (d :: l)
  | [] => List.Perm.refl _
  | x :: l => by
    unfold insD
    split
    · exact ((insD_perm d l).cons x).trans (List.Perm.swap d x l)
    · exact List.Perm.refl _
theorem srtD_perm : ∀ l : List D, (srtD l).Perm l
  | [] => List.Perm.refl _
  | d :: l => (insD_perm d _).trans ((srtD_perm l).cons d)
theorem insD_up (d : D) : ∀ {l : List D}, UpD l → UpD (insD d l)
  | [], _ => List.pairwise_singleton _ _
  | x :: l, h => by
    rw [UpD, List.pairwise_cons] at h
    unfold insD
    split
    · rename_i hx
      rw [UpD, List.pairwise_cons]
      refine ⟨fun y hy => ?_, insD_up d h.2⟩
      rcases List.mem_cons.mp ((insD_perm d l).mem_iff.mp hy) with rfl | hy
      · exact KeyOrd.kle_of_klt (O := lexO) hx
      · exact h.1 y hy
    · rename_i hx
      rw [UpD, List.pairwise_cons]
      have hx' : HT.lexLt (keyD x) (keyD d) = false := by simpa using hx
      refine ⟨fun y hy => ?_, List.pairwise_cons.mpr h⟩
      rcases List.mem_cons.mp hy with rfl | hy
      · exact hx'
      · exact KeyOrd.kle_trans (O := lexO) (a := keyD d) (b := keyD x) (c := keyD y) hx' (h.1 y hy)
theorem srtD_up : ∀ l : List D, UpD (srtD l)
  | [] => List.Pairwise.nil
  | d :: l => insD_up d (srtD_up l)
theorem up_unique : ∀ {l m : List D}, UpD l → UpD m → l.Perm m → (∀ a ∈ l, ∀ b ∈ l, keyD a = keyD b → a = b) → l = m
  | [], m, _, _, p, _ => by have := p.length_eq; cases m with
    | nil => rfl
    | cons _ _ => simp at this
  | a :: l, [], _, _, p, _ => by have := p.length_eq; simp at this
  | a :: l, b :: m, h, h', p, k => by
    rw [UpD, List.pairwise_cons] at h h'
    have hb : b ∈ a :: l := p.mem_iff.mpr List.mem_cons_self
    have ha : a ∈ b :: m := p.mem_iff.mp List.mem_cons_self
    have e : a = b := by
      rcases List.mem_cons.mp hb with q | q
      · exact q.symm
      · rcases List.mem_cons.mp ha with r | r
        · exact r
        · exact k a List.mem_cons_self b hb (lexLt_total _ _ (h'.1 a r) (h.1 b q))
    subst e
    rw [up_unique h.2 h'.2 ((List.perm_cons a).mp p) fun x hx y hy => k x (List.mem_cons_of_mem _ hx) y (List.mem_cons_of_mem _ hy)]
theorem srtD_eq {l m : List D} (hm : UpD m) (p : l.Perm m) (k : ∀ a ∈ l, ∀ b ∈ l, keyD a = keyD b → a = b) : srtD l = m :=
  up_unique (srtD_up l) hm ((srtD_perm l).trans p) fun a ha b hb => k a ((srtD_perm l).mem_iff.mp ha) b ((srtD_perm l).mem_iff.mp hb)
theorem tkey_cut : ∀ {a b : List Nat} {r r' : List Int}, a.map Int.ofNat ++ [-1] ++ r = b.map Int.ofNat ++ [-1] ++ r' → a = b ∧ r = r'
  | [], [], r, r', h => by simpa using h
  | [], y :: b, r, r', h => by
    simp at h
  | x :: a, [], r, r', h => by
    simp at h
  | x :: a, y :: b, r, r', h => by
    simp only [List.map_cons, List.cons_append] at h
    injection h with h1 h2
    obtain ⟨e1, e2⟩ := tkey_cut h2
    have : x = y := Int.ofNat.inj h1
    exact ⟨by rw [this, e1], e2⟩
theorem toInts_back : ∀ {ds : List D} {is : List Int}, toInts ds = some is → ds = is.map D.int
  | [], is, h => by cases h; rfl
  | d :: r, is, h => by
    cases d with
    | int i =>
      simp only [toInts] at h
      obtain ⟨js, h1, rfl⟩ := Option.map_eq_some_iff.mp h
      rw [toInts_back h1]; rfl
    | _ => simp [toInts] at h
theorem part_cut {d d' : D} {c c' r r' : List Int} {k : Nat} (h : partD d = some (c, k)) (h' : partD d' = some (c', k)) (e : c ++ r = c' ++ r') : d = d' ∧ r = r' := by
  cases d with
  | int i =>
    cases d' with
    | int j => simp only [partD] at h h'; cases h; cases h'; simp at e; exact ⟨by rw [e.1], e.2⟩
    | str s => simp only [partD] at h h'; cases h; cases h'
    | tup ds => simp only [partD] at h h'; cases h; obtain ⟨is, _, q⟩ := Option.map_eq_some_iff.mp h'; simp at q
    | _ => simp [partD] at h'
  | str s =>
    cases d' with
    | int j => simp only [partD] at h h'; cases h; cases h'
    | str s' =>
      simp only [partD] at h h'
      cases h; cases h'
      obtain ⟨e1, e2⟩ := tkey_cut e
      refine ⟨?_, e2⟩
      cases s; cases s'
      simp at e1
      rw [e1]
    | tup ds => simp only [partD] at h h'; cases h; obtain ⟨is, _, q⟩ := Option.map_eq_some_iff.mp h'; simp at q
    | _ => simp [partD] at h'
  | tup ds =>
    simp only [partD] at h
    obtain ⟨is, hi, q⟩ := Option.map_eq_some_iff.mp h
    simp at q
    obtain ⟨rfl, rfl⟩ := q
    cases d' with
    | int j => simp [partD] at h'
    | str s => simp [partD] at h'
    | tup ds' =>
      simp only [partD] at h'
      obtain ⟨js, hj, q⟩ := Option.map_eq_some_iff.mp h'
      simp at q
      obtain ⟨rfl, ek⟩ := q
      obtain ⟨e1, e2⟩ := List.append_inj e ek.symm
      rw [toInts_back hi, toInts_back hj, e1]
      exact ⟨rfl, e2⟩
    | _ => simp [partD] at h'
  | _ => simp [partD] at h
theorem parts_cut : ∀ {ds ds' : List D} {c : List Int} {ks : List Nat}, partsD ds = some (c, ks) → partsD ds' = some (c, ks) → ds = ds'
  | [], [], _, _, _, _ => rfl
  | [], d' :: ds', c, ks, h, h' => by
    simp only [partsD] at h h'
    cases h
    split at h' <;> simp at h'
  | d :: ds, [], c, ks, h, h' => by
    simp only [partsD] at h h'
    cases h'
    split at h <;> simp at h
  | d :: ds, d' :: ds', c, ks, h, h' => by
    simp only [partsD] at h h'
    split at h
    · rename_i p q hp hq
      split at h'
      · rename_i p' q' hp' hq'
        simp at h h'
        obtain ⟨h1, h2⟩ := h
        obtain ⟨h1', h2'⟩ := h'
        subst h1 h2
        simp at h2'
        obtain ⟨e1, e2⟩ := part_cut (d := d) (d' := d') (k := p.2) (by rw [hp]) (by rw [hp', ← h2'.1]) h1'.symm
        have := parts_cut (ds := ds) (ds' := ds') (c := q.1) (ks := q.2) (by rw [hq]) (by rw [hq', e2, ← h2'.2])
        rw [e1, this]
      · cases h'
    · cases h
inductive Srt (ds : List D) : Prop
  | flat (k : Nat) (hk : k < 2) (h : ∀ d ∈ ds, ∃ c, partD d = some (c, k)) : Srt ds
  | rows (k : Nat) (ks : List Nat) (h : ∀ d ∈ ds, ∃ c, rowD d = some (c, k :: ks)) : Srt ds
theorem key_part {d : D} {c : List Int} {k : Nat} (h : partD d = some (c, k)) : keyD d = c := by unfold keyD; rw [h]
theorem parts_ints : ∀ {is : List Int}, partsD (is.map D.int) = some (is, is.map fun _ => 0)
  | [] => rfl
  | i :: is => by
    have := parts_ints (is := is)
    simp only [List.map_cons, partsD, partD, this]
    rfl
theorem key_row {d : D} {c : List Int} {ks : List Nat} (h : rowD d = some (c, ks)) : keyD d = c := by
  cases d with
  | tup ds =>
    unfold keyD
    cases z : partD (.tup ds) with
    | none => dsimp only; rw [h]
    | some p =>
      dsimp only
      simp only [partD] at z
      obtain ⟨is, hi, q⟩ := Option.map_eq_some_iff.mp z
      rw [← q]
      simp only [rowD] at h
      rw [toInts_back hi, parts_ints] at h
      simp at h
      exact h.1
  | _ => simp [rowD] at h
theorem Srt.inj {ds : List D} (h : Srt ds) : ∀ a ∈ ds, ∀ b ∈ ds, keyD a = keyD b → a = b := by
  intro a ha b hb e
  cases h with
  | flat k hk h =>
    obtain ⟨c, h1⟩ := h a ha
    obtain ⟨c', h2⟩ := h b hb
    rw [key_part h1, key_part h2] at e
    exact (part_cut (r := []) (r' := []) h1 h2 (by rw [e])).1
  | rows k ks h =>
    obtain ⟨c, h1⟩ := h a ha
    obtain ⟨c', h2⟩ := h b hb
    rw [key_row h1, key_row h2] at e
    subst e
    cases a with
    | tup xs => cases b with
      | tup ys => rw [parts_cut (show partsD xs = some (c, k :: ks) from h1) (show partsD ys = some (c, k :: ks) from h2)]
      | _ => simp [rowD] at h2
    | _ => simp [rowD] at h1
theorem out_srt {ds : List D} {q : List Nat} (h : Srt ds) (o : Order ds.length (ds.map keyD) q) : (q.map fun i => ds.getD i .non) = srtD ds := by
  have pm : (q.map fun i => ds.getD i .non).Perm ds := by
    have := o.pm.map fun i => ds.getD i .non
    have e : ((List.range ds.length).map fun i => ds.getD i .non) = ds := by
      refine List.ext_getElem? fun i => ?_
      rw [List.getElem?_map]
      rcases Nat.lt_or_ge i ds.length with z | z
      · simp [z]
      · simp [z]
    rw [e] at this
    exact this
  refine (srtD_eq ?_ pm.symm h.inj).symm
  rw [UpD, List.pairwise_map]
  refine List.pairwise_iff_getElem.mpr fun i j hi hj hij => ?_
  have hl : q.length = ds.length := by have := o.pm.length_eq; simpa using this
  have := o.up i j (by omega) (by omega)
  have g : ∀ x, x ∈ q → (ds.map keyD).getD x [] = keyD (ds.getD x .non) := fun x hx => by
    have := o.lt x hx
    simp [this]
  have gi : q.getD i 0 = q[i] := by simp [hi]
  have gj : q.getD j 0 = q[j] := by simp [hj]
  rw [gi, gj, g _ (List.getElem_mem hi), g _ (List.getElem_mem hj)] at this
  exact this
open Classical in
section
variable {X : Cx} {ct : Nat → Addr} {W : XWish} {pos : Pos} {K : PySem.W.Frag} {ι : Nat → Addr} {n : Nat} {H : Hp}
theorem part_dv {d : D} {c : List Int} {k : Nat} {v : V} (h : partD d = some (c, k)) (q : DV K ct ι n H d v) : Part K H v c k := by
  cases q with
  | int i => simp only [partD] at h; cases h; exact .int i
  | str s => simp only [partD] at h; cases h; exact .str s
  | tup e r =>
    simp only [partD] at h
    obtain ⟨is, hi, z⟩ := Option.map_eq_some_iff.mp h
    simp at z
    obtain ⟨rfl, rfl⟩ := z
    have := toInts_dv hi r
    subst this
    exact .tup e
  | _ => simp [partD] at h
theorem parts_dv : ∀ {ds : List D} {c : List Int} {ks : List Nat} {vs : List V}, partsD ds = some (c, ks) → DVs K ct ι n H ds vs → Parts K H vs c ks
  | [], c, ks, _, h, .nil => by simp only [partsD] at h; cases h; exact .nil
  | d :: ds, c, ks, _, h, .cons q qs => by
    simp only [partsD] at h
    split at h
    · rename_i p p' hp hp'
      cases h
      exact .cons (part_dv hp q) (parts_dv hp' qs)
    · cases h
theorem out_dv {ds : List D} {vs : List V} {q : List Nat} (h : DVs K ct ι n H ds vs) (hq : ∀ i ∈ q, i < ds.length) : DVs K ct ι n H (q.map fun i => ds.getD i .non) (outL vs q) := by
  induction q with
  | nil => exact .nil
  | cons i q ih =>
    refine .cons ?_ (ih fun j hj => hq j (List.mem_cons_of_mem _ hj))
    have hi := hq i List.mem_cons_self
    have hd : ds[i]? = some ds[i] := List.getElem?_eq_getElem hi
    obtain ⟨v, h1, h2⟩ := h.at hd
    show DV K ct ι n H (ds.getD i .non) (vs.getD i .non)
    rw [List.getD_eq_getElem?_getD, List.getD_eq_getElem?_getD, hd, h1]
    exact h2
def keyX : Key → D
  | .inl i => .int i
  | .inr s => .str s
def itemsD (M : Mem) (n : Nat) : Option (List (D × D)) := match M[n]? with
  | some (.dk kvs) => some (kvs.map fun p => (keyX p.1, p.2))
  | some (.dt kvs) => some (kvs.map fun p => (.tup (p.1.map keyX), p.2))
  | _ => none
def pairD (p : D × D) : D := .tup [p.1, p.2]
open Classical in
noncomputable def sortedI (d : D) (M : Mem) : Out D := match d with
  | .ref n => match itemsD M n with
    | some ps => if Srt (ps.map pairD) ∧ ps.length < 64 then .ok (.ref M.length) (M ++ [.lst (srtD (ps.map pairD))]) else .bad
    | none => .bad
  | _ => .bad
noncomputable def mSortedI (mo : ME) : ME := fun e M => (mo e M).bind sortedI
theorem keyX_dv {k : Key} : DV K ct ι n H (keyX k) (kV k) := by
  cases k with
  | inl i => exact .int i
  | inr s => exact .str s
theorem keysX_dv : ∀ {ks : List Key}, DVs K ct ι n H (ks.map keyX) (ks.map kV)
  | [] => .nil
  | _ :: _ => .cons keyX_dv keysX_dv
abbrev PD (K : PySem.W.Frag) (ct ι : Nat → Addr) (n : Nat) (H : Hp) : List (D × D) → List (V × V) → Prop := Paired fun p q => DV K ct ι n H p.1 q.1 ∧ DV K ct ι n H p.2 q.2
theorem held_dv {M : Mem} {m : Nat} {ps : List (D × D)} {qs : List (V × V)} (R : Rl K ct ι M H) (h : itemsD M m = some ps) (hq : Held H (ι m) qs) : PD K ct ι M.length H ps qs := by
  unfold itemsD at h
  split at h
  · rename_i kvs e
    cases h
    obtain ⟨vs, hH, pv⟩ := R.obj m _ e
    rcases hq with ⟨kvs', h1, rfl⟩ | ⟨kvs', h1, _⟩
    · rw [hH] at h1
      cases h1
      clear e hH
      induction pv with
      | nil => exact .nil
      | cons q _ ih => exact .cons ⟨keyX_dv, q⟩ (ih)
    · rw [hH] at h1; cases h1
  · rename_i kvs e
    cases h
    obtain ⟨vs, hH, pv⟩ := R.obj m _ e
    rcases hq with ⟨kvs', h1, rfl⟩ | ⟨kvs', h1, pr⟩
    · rw [hH] at h1; cases h1
    · rw [hH] at h1
      cases h1
      clear e hH
      induction pv generalizing qs with
      | nil => cases pr; exact .nil
      | cons q _ ih =>
        cases pr with
        | cons r rs =>
          obtain ⟨b, e1, e2, e3⟩ := r
          refine .cons ⟨?_, ?_⟩ (ih rs)
          · rw [e1]; exact .tup e2 keysX_dv
          · rw [e3]; exact q
  · cases h
theorem upds_ext {ps : List (Addr × HO)} : ∀ {H : Hp}, (∀ p ∈ ps, H p.1 = none) → (ps.map (·.1)).Nodup → Ext K ι n H ι n (upds H ps) := by
  induction ps with
  | nil => intro H _ _; exact .refl
  | cons p ps ih =>
    intro H h nd
    rw [List.map_cons, List.nodup_cons] at nd
    refine (Ext.fresh (o := p.2) (h p List.mem_cons_self)).trans (ih (fun q hq => ?_) nd.2)
    rw [upd_ne (fun z => nd.1 (by rw [← z]; exact List.mem_map_of_mem hq))]
    exact h q (List.mem_cons_of_mem _ hq)
theorem upds_rl {M : Mem} {ps : List (Addr × HO)} : ∀ {H : Hp}, Rl K ct ι M H → (∀ p ∈ ps, H p.1 = none) → (ps.map (·.1)).Nodup → Rl K ct ι M (upds H ps) := by
  induction ps with
  | nil => intro H R _ _; exact R
  | cons p ps ih =>
    intro H R h nd
    rw [List.map_cons, List.nodup_cons] at nd
    refine ih (R.fresh (o := p.2) (h p List.mem_cons_self)) (fun q hq => ?_) nd.2
    rw [upd_ne (fun z => nd.1 (by rw [← z]; exact List.mem_map_of_mem hq))]
    exact h q (List.mem_cons_of_mem _ hq)
theorem prs_fst {as : List Addr} {qs : List (V × V)} (h : as.length = qs.length) : (prs as qs).map (·.1) = as := by
  unfold prs
  rw [List.map_map]
  have e : ((fun x => x.fst) ∘ fun (p : Addr × V × V) => (p.1, HO.tup [p.2.1, p.2.2])) = Prod.fst := rfl
  rw [e, List.map_fst_zip]
  omega
theorem pairs_dv {as : List Addr} {ps : List (D × D)} {qs : List (V × V)} {H' : Hp} (h : PD K ct ι n H' ps qs) (la : as.length = qs.length) (hh : ∀ (i : Nat) (a : Addr) (q : V × V), as[i]? = some a → qs[i]? = some q → H' a = some (.tup [q.1, q.2])) : DVs K ct ι n H' (ps.map pairD) (as.map V.ref) := by
  induction h generalizing as with
  | nil => cases as with
    | nil => exact .nil
    | cons _ _ => simp at la
  | @cons p q ps qs r _ ih =>
    cases as with
    | nil => simp at la
    | cons a as =>
      refine .cons (.tup (hh 0 a q rfl rfl) (.cons r.1 (.cons r.2 .nil))) (ih (by simpa using la) fun i a q h1 h2 => hh (i + 1) a q (by simpa using h1) (by simpa using h2))
variable {o : Expr} {mo : ME} {apos p1 pos1 : Pos}
theorem se_sortedI (hc : X.calm = true) (hu : X.A.units + 64 < cLine) (ho : SE X ct W o mo) (hg : Gl X "sorted") (hm : X.mg "sorted" = none)
    (hbase : attributeBase o "items" X.env (eval o X.env) = eval o X.env := by rfl) (hline : (apos.endLine == pos1.line) = true := by rfl)
    (he : starEach [.Call (.Attribute o "items" apos) [] [] pos1] X.env = (false, eval (.Call (.Attribute o "items" apos) [] [] pos1) X.env) :: starEach [] X.env := by rfl) (hpl : (backTo pos (starEach [] X.env)).any (·.1) = false := by rfl) :
    SE X ct W (.Call (.Name "sorted" p1) [.Call (.Attribute o "items" apos) [] [] pos1] [] pos) (mSortedI mo) := by
  refine se_of (pe_callB (call_sortedI hc (by omega)) hg hm bt_sorted (pa_cons (pe_bm0 PySem.F.plainAttrs_dict PySem.F.slot_dict_items PySem.F.type_dict_items mt_items ho hbase hline) pa_nil he) (by decide) (by decide) he hpl) fun σ H Q q => ?_
  obtain ⟨ι, e, M, w, p⟩ := tG_bind (relα := relD X.K ct) (f := fun d _ M1 => sortedI d M1) q
  refine ⟨ι, e, M, w, p.mono fun v H1 ⟨ι1, e1, M1, d, w1, q1, p1⟩ => ?_⟩
  cases d with
  | ref m =>
    obtain ⟨hn, rfl⟩ := dv_ref q1
    have R1 := w1.rl
    simp only [sortedI] at p1
    cases z : itemsD M1 m with
    | none => rw [z] at p1; exact p1.elim
    | some ps =>
      rw [z] at p1
      dsimp only at p1
      split at p1
      · rename_i hs
        have isd : (∃ kvs, H1 (ι1 m) = some (.dK kvs)) ∨ ∃ kvs, H1 (ι1 m) = some (.dT kvs) := by
          unfold itemsD at z
          split at z
          · rename_i kvs e'
            obtain ⟨vs, hH, _⟩ := R1.obj m _ e'
            exact .inl ⟨vs, hH⟩
          · rename_i kvs e'
            obtain ⟨vs, hH, _⟩ := R1.obj m _ e'
            exact .inr ⟨vs, hH⟩
          · cases z
        have some1 : ∃ u, H1 (ι1 m) = some u := by
          rcases isd with ⟨_, q⟩ | ⟨_, q⟩ <;> exact ⟨_, q⟩
        refine ⟨.inr (.inr (.inl ⟨rfl, isd⟩)), _, rfl, rfl, ?_, fun v hv => ?_⟩
        · rcases isd with ⟨kvs, q⟩ | ⟨kvs, q⟩
          · exact .inl ⟨kvs, .inl q⟩
          · exact .inr ⟨kvs, .inl q⟩
        · have ne : ι1 m ≠ v := fun z' => by obtain ⟨u, hu⟩ := some1; rw [z', hv] at hu; cases hu
          have x2 : Ext X.K ι1 M1.length H1 ι1 M1.length (upd H1 v (viewO v (ι1 m))) := Ext.fresh hv
          have R2 : Rl X.K ct ι1 M1 (upd H1 v (viewO v (ι1 m))) := R1.fresh hv
          have p2 := p1.ext x2
          refine ⟨v, ι1 m, rfl, upd_same, by rw [upd_ne ne]; exact isd, fun qs hqs => ?_⟩
          have pd := held_dv R2 z hqs
          have lq := pd.length
          refine ⟨by omega, ?_⟩
          obtain ⟨hs1, hs2⟩ := hs
          have rk : ∃ k ks, ∀ p ∈ ps, ∃ c, partsD [p.1, p.2] = some (c, k :: ks) := by
            cases hs1 with
            | flat k hk h =>
              cases ps with
              | nil => exact ⟨0, [], fun p hp => by cases hp⟩
              | cons p ps =>
                obtain ⟨c, hc⟩ := h (pairD p) (by simp)
                simp only [pairD, partD] at hc
                obtain ⟨is, _, q⟩ := Option.map_eq_some_iff.mp hc
                simp at q
                omega
            | rows k ks h => exact ⟨k, ks, fun p hp => h (pairD p) (List.mem_map_of_mem hp)⟩
          obtain ⟨k, ks, hrow⟩ := rk
          refine ⟨ps.map fun p => keyD (pairD p), k, ks, ?_, fun as q l la nd fr od hl => ?_⟩
          · clear lq hqs z hs1 hs2 p1 p2
            induction pd with
            | nil => exact .nil
            | @cons p q ps qs r _ ih =>
              refine .cons ?_ (ih fun p hp => hrow p (List.mem_cons_of_mem _ hp))
              obtain ⟨c, hc⟩ := hrow p List.mem_cons_self
              show Parts X.K _ _ (keyD (pairD p)) _
              rw [key_row (d := pairD p) hc]
              exact parts_dv hc (.cons r.1 (.cons r.2 .nil))
          · have fr' : ∀ p ∈ prs as qs, upd H1 v (viewO v (ι1 m)) p.1 = none := fun p hp => by
              have : p.1 ∈ (prs as qs).map (·.1) := List.mem_map_of_mem hp
              rw [prs_fst la] at this
              exact fr _ this
            have nd' : ((prs as qs).map (·.1)).Nodup := by rw [prs_fst la]; exact nd
            have x3 := upds_ext (K := X.K) (ι := ι1) (n := M1.length) fr' nd'
            have R3 := upds_rl R2 fr' nd'
            have pd3 : PD X.K ct ι1 M1.length (upds (upd H1 v (viewO v (ι1 m))) (prs as qs)) ps qs := Paired.mapP pd fun a b h => ⟨h.1.mono x3, h.2.mono x3⟩
            have dv3 := pairs_dv pd3 la fun i a q ha hq => by
              have : (prs as qs)[i]? = some (a, .tup [q.1, q.2]) := by
                unfold prs
                rw [List.getElem?_map, show (as.zip qs)[i]? = some (a, q) from List.getElem?_zip_eq_some.mpr ⟨ha, hq⟩]
                rfl
              exact upds_at nd' this
            have od' : Order (ps.map pairD).length ((ps.map pairD).map keyD) q := by
              rw [List.map_map, List.length_map, show ps.length = qs.length by omega]
              exact od
            have out := out_dv dv3 od'.lt
            rw [out_srt hs1 od'] at out
            exact post_lst R3 out hl (p2.ext x3)
      · exact p1.elim
  | _ => exact p1.elim
end
section
variable {e : Sl} {M : Mem}
@[simp] theorem mSortedI_ap {mo : ME} : mSortedI mo e M = (mo e M).bind sortedI := id rfl
theorem sortedI_of {n : Nat} {ps : List (D × D)} (h : itemsD M n = some ps) (hs : Srt (ps.map pairD)) (hl : ps.length < 64) : sortedI (.ref n) M = .ok (.ref M.length) (M ++ [.lst (srtD (ps.map pairD))]) := by
  simp only [sortedI, h]; rw [if_pos ⟨hs, hl⟩]
end
end S
namespace S
open PySem PySem.Spec PyProof.Rows L2
section
variable {X : Cx} {ct : Nat → Addr} {W : XWish} {pos : Pos} {K : PySem.W.Frag} {ι : Nat → Addr} {n : Nat} {H : Hp}
def sListD : OpN := fun ds M => match ds with
  | [.ref n] => match M[n]? with
    | some (.dk kvs) => .ok (.ref M.length) (M ++ [.lst (kvs.map fun p => keyX p.1)])
    | _ => .bad
  | _ => .bad
noncomputable def listV (d : D) (M : Mem) : Out D := match d with
  | .ref n => match M[n]? with
    | some (.dk kvs) => .ok (.ref M.length) (M ++ [.lst (kvs.map fun p => p.2)])
    | _ => .bad
  | _ => .bad
noncomputable def mListV (mo : ME) : ME := fun e M => (mo e M).bind listV
variable {o : Expr} {mo : ME} {apos p1 pos1 : Pos}
end
section
variable {e : Sl} {M : Mem}
@[simp] theorem mListV_ap {mo : ME} : mListV mo e M = (mo e M).bind listV := id rfl
noncomputable def sListA : OpN := orN sList sListD
@[simp] theorem sListA_tup {ds : List D} : sListA [.tup ds] M = .ok (.ref M.length) (M ++ [.lst ds]) := orN_ok (by simp [sList, seqOf])
end
end S
set_option Elab.async false
set_option maxRecDepth 100000
set_option linter.all false
namespace My
open PySem L2 S
noncomputable def t_law_stream_1 : MS :=
  (sSeq (sExpr (mBM "list" sAppend (mVar 2) (mCons (mBin sMod (mVar 3) (mBin sPow (mC (.int 10)) (mC (.int 9)))) mNil)))
  (sAsg (mBin sDiv (mVar 3) (mBin sPow (mC (.int 10)) (mC (.int 9)))) (gN 3)))
noncomputable def f_law_stream_2 : MS :=
  (sFor (mRng1 (mCons (mVar 1) mNil)) (gN 4) t_law_stream_1)
noncomputable def i_law_stream_3 : MS :=
  (sIf (mTest (mBin sEq (mBin sMod (mVar 0) (mC (.int 2))) (mC (.int 1)))) (sSeq (sAsg (mBin sDiv (mVar 0) (mC (.int 2))) (gN 3))
  (sSeq f_law_stream_2
  (sRet (mVar 2)))) sNext)
noncomputable def t_law_stream_4 : MS :=
  (sSeq (sAsg (mBin sMod (mBin sAdd (mBin sAdd (mBin sMul (mVar 5) (mBin sAdd (mBin sDiv (mVar 5) (mC (.int 1009))) (mC (.int 69621)))) (mVar 4)) (mC (.int 1))) (mC (.int 2147483647))) (gN 5))
  (sExpr (mBM "list" sAppend (mVar 2) (mCons (mVar 5) mNil))))
noncomputable def f_law_stream_5 : MS :=
  (sFor (mRng1 (mCons (mVar 1) mNil)) (gN 4) t_law_stream_4)
noncomputable def b_law_stream : MS :=
  (sSeq (sAsg (mLst mNil) (gN 2))
  (sSeq i_law_stream_3
  (sSeq (sAsg (mBin sMod (mBin sAdd (mBin sMul (mVar 0) (mC (.int 48271))) (mC (.int 7919))) (mC (.int 2147483647))) (gN 5))
  (sSeq f_law_stream_5
  (sRet (mVar 2))))))
noncomputable def m_law_stream : Fn := runF 6 b_law_stream
noncomputable def i_law_asks_1 : MS :=
  (sIf (mTest (mBin sEq (mBin sMod (mBin sIx (mVar 3) (mC (.int 3))) (mC (.int 3))) (mC (.int 0)))) (sAsg (mTup (mCons (mC (.str "swap")) (mCons (mVar 4) (mCons (mBin sMod (mBin sDiv (mBin sIx (mVar 3) (mC (.int 1))) (mC (.int 4))) (mC (.int 4))) (mCons (mVar 5) mNil))))) (gN 6)) sNext)
noncomputable def t_law_asks_2 : MS :=
  (sSeq (sAsg (mCall m_law_stream 2 [] (mCons (mVar 2) (mCons (mC (.int 6)) mNil))) (gN 3))
  (sSeq (sAsg (mBin sIx (mLst (mCons (mC (.str "a")) (mCons (mC (.str "aa")) (mCons (mC (.str "ba")) (mCons (mC (.str "zzzzzzzz")) mNil))))) (mBin sMod (mBin sIx (mVar 3) (mC (.int 0))) (mC (.int 4)))) (gN 4))
  (sSeq (sAsg (mBin sIx (mLst (mCons (mBin sMod (mBin sIx (mVar 3) (mC (.int 1))) (mC (.int 4))) (mCons (mBin sMod (mVar 2) (mBin sPow (mC (.int 10)) (mC (.int 40)))) (mCons (mBin sSub (mC (.int 0)) (mBin sMod (mBin sIx (mVar 3) (mC (.int 1))) (mC (.int 4)))) mNil)))) (mBin sMod (mBin sIx (mVar 3) (mC (.int 2))) (mC (.int 3)))) (gN 5))
  (sSeq (sAsg (mTup (mCons (mBin sIx (mLst (mCons (mC (.str "put")) (mCons (mC (.str "add")) mNil))) (mBin sMod (mBin sIx (mVar 3) (mC (.int 3))) (mC (.int 2)))) (mCons (mVar 4) (mCons (mVar 5) mNil)))) (gN 6))
  (sSeq i_law_asks_1
  (sExpr (mBM "list" sAppend (mVar 1) (mCons (mTup (mCons (mBin sSub (mBin sMod (mBin sIx (mVar 3) (mC (.int 4))) (mC (.int 5))) (mC (.int 1))) (mCons (mBin sMod (mBin sIx (mVar 3) (mC (.int 5))) (mC (.int 7))) (mCons (mVar 6) mNil)))) mNil))))))))
noncomputable def f_law_asks_3 : MS :=
  (sFor (mIter (mSl (mVar 0) (mPart (mC (.int 1))) (mPart (mC (.int 50))))) (gN 2) t_law_asks_2)
noncomputable def b_law_asks : MS :=
  (sSeq (sAsg (mLst mNil) (gN 1))
  (sSeq f_law_asks_3
  (sRet (mVar 1))))
noncomputable def m_law_asks : Fn := runF 7 b_law_asks
noncomputable def i_law_cell_at_1 : MS :=
  (sIf (mTest (mBin sLt (mVar 1) (mCB sLen (mCons (mVar 0) mNil)))) (sRet (mBin sIx (mVar 0) (mVar 1))) sNext)
noncomputable def b_law_cell_at : MS :=
  (sSeq i_law_cell_at_1
  (sRet (mC (.int 0))))
noncomputable def m_law_cell_at : Fn := runF 2 b_law_cell_at
noncomputable def b_Shelf_init : MS :=
  (sSeq (sFldS [0] (mVar 0) mDNew "amounts")
  (sFldS [0] (mVar 0) mDNew "answered"))
noncomputable def m_Shelf_init : Fn := runF 1 b_Shelf_init
noncomputable def b_Shelf_value_of : MS :=
  (sRet (mGet2 (mFld [0] (mVar 0) "amounts") (mVar 1) (mC (.int 0))))
noncomputable def m_Shelf_value_of : Fn := runF 2 b_Shelf_value_of
noncomputable def i_Shelf_obey_1 : MS :=
  (sIf (mTest (mBin sEq (mBin sIx (mVar 1) (mC (.int 0))) (mC (.str "put")))) (sSeq (sDSetS (mFld [0] (mVar 0) "amounts") (mVar 2) (mBin sIx (mVar 1) (mC (.int 2))))
  (sRet (mVar 3))) sNext)
noncomputable def i_Shelf_obey_2 : MS :=
  (sIf (mTest (mBin sEq (mBin sIx (mVar 1) (mC (.int 0))) (mC (.str "add")))) (sSeq (sDSetS (mFld [0] (mVar 0) "amounts") (mVar 2) (mBin sAdd (mVar 3) (mBin sIx (mVar 1) (mC (.int 2)))))
  (sRet (mBin sAdd (mVar 3) (mBin sIx (mVar 1) (mC (.int 2)))))) sNext)
noncomputable def i_Shelf_obey_3 : MS :=
  (sIf (mTest (mBin sNe (mVar 3) (mBin sIx (mVar 1) (mC (.int 2))))) (sRet (mC (.int 0))) sNext)
noncomputable def b_Shelf_obey : MS :=
  (sSeq (sAsg (mBin sIx (mVar 1) (mC (.int 1))) (gN 2))
  (sSeq (sAsg (mMeth 0 "value_of" m_Shelf_value_of 2 [] (mVar 0) (mCons (mVar 2) mNil)) (gN 3))
  (sSeq i_Shelf_obey_1
  (sSeq i_Shelf_obey_2
  (sSeq i_Shelf_obey_3
  (sSeq (sDSetS (mFld [0] (mVar 0) "amounts") (mVar 2) (mBin sIx (mVar 1) (mC (.int 3))))
  (sRet (mC (.int 1)))))))))
noncomputable def m_Shelf_obey : Fn := runF 4 b_Shelf_obey
noncomputable def i_Shelf_do_1 : MS :=
  (sIf (mTest (mBin sNotIn (mVar 4) (mFld [0] (mVar 0) "answered"))) (sDSetS (mFld [0] (mVar 0) "answered") (mVar 4) (mMeth 0 "obey" m_Shelf_obey 2 [] (mVar 0) (mCons (mVar 3) mNil))) sNext)
noncomputable def b_Shelf_do : MS :=
  (sSeq (sAsg (mTup (mCons (mVar 1) (mCons (mVar 2) mNil))) (gN 4))
  (sSeq i_Shelf_do_1
  (sRet (mBin sIx (mFld [0] (mVar 0) "answered") (mVar 4)))))
noncomputable def m_Shelf_do : Fn := runF 5 b_Shelf_do
noncomputable def b_law_done : MS :=
  (sRet (mCompT 3 [0] (mIter (mVar 1)) (gT 3 (gCons' (gN 0) (gCons' (gN 1) (gCons' (gN 2) gNil')))) mAll (mMeth 0 "do" m_Shelf_do 4 [] (mVar 3) (mCons (mVar 0) (mCons (mVar 1) (mCons (mVar 2) mNil))))))
noncomputable def m_law_done : Fn := runF 2 b_law_done
noncomputable def b_Shelf_told : MS :=
  (sSeq (sAsg (mComp [] (mIter (mSortedI (mFld [0] (mVar 0) "amounts"))) (mTest (mBin sNe (mBin sIx (mVar 0) (mC (.int 1))) (mC (.int 0)))) (mVar 0)) (gN 1))
  (sSeq (sAsg (mCompT 2 [] (mIter (mSortedI (mFld [0] (mVar 0) "answered"))) (gT 2 (gCons' (gN 0) (gCons' (gN 1) gNil'))) mAll (mBin sAdd (mVar 0) (mTup (mCons (mVar 1) mNil)))) (gN 2))
  (sRet (mTup (mCons (mCB sTuple (mCons (mVar 1) mNil)) (mCons (mCB sTuple (mCons (mVar 2) mNil)) mNil))))))
noncomputable def m_Shelf_told : Fn := runF 3 b_Shelf_told
noncomputable def t_shelf_of_1 : MS :=
  (sDSetS (mFld [0] (mVar 1) "amounts") (mVar 2) (mVar 3))
noncomputable def f_shelf_of_2 : MS :=
  (sFor (mIter (mBin sIx (mVar 0) (mC (.int 0)))) (gT 2 (gCons' (gN 2) (gCons' (gN 3) gNil'))) t_shelf_of_1)
noncomputable def t_shelf_of_3 : MS :=
  (sDSetS (mFld [0] (mVar 1) "answered") (mTup (mCons (mVar 4) (mCons (mVar 5) mNil))) (mVar 6))
noncomputable def f_shelf_of_4 : MS :=
  (sFor (mIter (mBin sIx (mVar 0) (mC (.int 1)))) (gT 3 (gCons' (gN 4) (gCons' (gN 5) (gCons' (gN 6) gNil')))) t_shelf_of_3)
noncomputable def b_shelf_of : MS :=
  (sSeq (sAsg (mMake 0 m_Shelf_init 1 [] mNil) (gN 1))
  (sSeq f_shelf_of_2
  (sSeq f_shelf_of_4
  (sRet (mVar 1)))))
noncomputable def m_shelf_of : Fn := runF 7 b_shelf_of
noncomputable def i_law_firsts_1 : MS :=
  (sIf (mTest (mBin sNotIn (mTup (mCons (mBin sIx (mVar 3) (mC (.int 0))) (mCons (mBin sIx (mVar 3) (mC (.int 1))) mNil))) (mVar 1))) (sSeq (sDSetS (mVar 1) (mTup (mCons (mBin sIx (mVar 3) (mC (.int 0))) (mCons (mBin sIx (mVar 3) (mC (.int 1))) mNil))) (mC (.bl true)))
  (sExpr (mBM "list" sAppend (mVar 2) (mCons (mVar 3) mNil)))) sNext)
noncomputable def t_law_firsts_2 : MS :=
  i_law_firsts_1
noncomputable def f_law_firsts_3 : MS :=
  (sFor (mIter (mVar 0)) (gN 3) t_law_firsts_2)
noncomputable def b_law_firsts : MS :=
  (sSeq (sAsg mDNew (gN 1))
  (sSeq (sAsg (mLst mNil) (gN 2))
  (sSeq f_law_firsts_3
  (sRet (mVar 2)))))
noncomputable def m_law_firsts : Fn := runF 4 b_law_firsts
noncomputable def i_law_1 : MS :=
  (sIf (mOr (mTest (mBin sNe (mVar 8) (mVar 5))) (mTest (mBin sNe (mMeth 0 "told" m_Shelf_told 1 [] (mVar 9) mNil) (mVar 6)))) (sRet (mC (.bl false))) sNext)
noncomputable def i_law_2 : MS :=
  (sIf (mOr (mTest (mBin sNe (mMeth 0 "told" m_Shelf_told 1 [] (mVar 11) mNil) (mVar 6))) (mTest (mBin sNe (mCB sLen (mCons (mBin sIx (mVar 6) (mC (.int 1))) mNil)) (mCB sLen (mCons (mVar 10) mNil))))) (sRet (mC (.bl false))) sNext)
noncomputable def t_law_3 : MS :=
  (sSeq (sAsg (mBin sIx (mVar 12) (mBin sMod (mBin sAdd (mBin sIx (mVar 2) (mC (.int 1))) (mBin sMul (mBin sAdd (mC (.int 1)) (mBin sMul (mBin sMod (mBin sDiv (mBin sIx (mVar 2) (mC (.int 1))) (mC (.int 4))) (mC (.int 2))) (mC (.int 2)))) (mVar 14))) (mC (.int 4)))) (gN 15))
  (sExpr (mCall m_law_done 2 [] (mCons (mVar 13) (mCons (mComp [15] (mIter (mVar 10)) (mTest (mBin sEq (mBin sIx (mBin sIx (mVar 0) (mC (.int 2))) (mC (.int 1))) (mVar 1))) (mVar 0)) mNil)))))
noncomputable def f_law_4 : MS :=
  (sFor (mRng1 (mCons (mC (.int 4)) mNil)) (gN 14) t_law_3)
noncomputable def b_law : MS :=
  (sSeq (sAsg (mCall m_law_asks 1 [] (mCons (mVar 0) mNil)) (gN 1))
  (sSeq (sAsg (mCall m_law_stream 2 [] (mCons (mCall m_law_cell_at 2 [] (mCons (mVar 0) (mCons (mC (.int 0)) mNil))) (mCons (mC (.int 2)) mNil))) (gN 2))
  (sSeq (sAsg (mBin sMod (mBin sIx (mVar 2) (mC (.int 0))) (mBin sAdd (mCB sLen (mCons (mVar 1) mNil)) (mC (.int 1)))) (gN 3))
  (sSeq (sAsg (mMake 0 m_Shelf_init 1 [] mNil) (gN 4))
  (sSeq (sAsg (mCall m_law_done 2 [] (mCons (mVar 4) (mCons (mVar 1) mNil))) (gN 5))
  (sSeq (sAsg (mMeth 0 "told" m_Shelf_told 1 [] (mVar 4) mNil) (gN 6))
  (sSeq (sAsg (mMake 0 m_Shelf_init 1 [] mNil) (gN 7))
  (sSeq (sAsg (mCall m_law_done 2 [] (mCons (mVar 7) (mCons (mSl (mVar 1) mNoPart (mPart (mVar 3))) mNil))) (gN 8))
  (sSeq (sAsg (mCall m_shelf_of 1 [] (mCons (mMeth 0 "told" m_Shelf_told 1 [] (mVar 7) mNil) mNil)) (gN 9))
  (sSeq (sAsg (mBin sAdd (mVar 8) (mCall m_law_done 2 [] (mCons (mVar 9) (mCons (mSl (mVar 1) (mPart (mVar 3)) mNoPart) mNil)))) (gN 8))
  (sSeq i_law_1
  (sSeq (sAsg (mCall m_law_firsts 1 [] (mCons (mVar 1) mNil)) (gN 10))
  (sSeq (sAsg (mMake 0 m_Shelf_init 1 [] mNil) (gN 11))
  (sSeq (sExpr (mCall m_law_done 2 [] (mCons (mVar 11) (mCons (mVar 10) mNil))))
  (sSeq i_law_2
  (sSeq (sAsg (mLst (mCons (mC (.str "a")) (mCons (mC (.str "aa")) (mCons (mC (.str "ba")) (mCons (mC (.str "zzzzzzzz")) mNil))))) (gN 12))
  (sSeq (sAsg (mMake 0 m_Shelf_init 1 [] mNil) (gN 13))
  (sSeq f_law_4
  (sRet (mAndV (mBin sEq (mMeth 0 "told" m_Shelf_told 1 [] (mVar 13) mNil) (mVar 6)) (mBin sEq (mCall m_law_done 2 [] (mCons (mVar 13) (mCons (mVar 1) mNil))) (mVar 5))))))))))))))))))))))
noncomputable def m_law : Fn := runF 16 b_law
@[simp] theorem uw_put_add : (Str.ofString "put" = Str.ofString "add") = False := eq_false (by decide)
@[simp] theorem uw_put_swap : (Str.ofString "put" = Str.ofString "swap") = False := eq_false (by decide)
@[simp] theorem uw_add_put : (Str.ofString "add" = Str.ofString "put") = False := eq_false (by decide)
@[simp] theorem uw_add_swap : (Str.ofString "add" = Str.ofString "swap") = False := eq_false (by decide)
@[simp] theorem uw_swap_put : (Str.ofString "swap" = Str.ofString "put") = False := eq_false (by decide)
@[simp] theorem uw_swap_add : (Str.ofString "swap" = Str.ofString "add") = False := eq_false (by decide)
def Gr (M M' : Mem) : Prop := ∀ (i : Nat) (o : MO), M[i]? = some o → M'[i]? = some o
theorem Gr.refl {M : Mem} : Gr M M := fun _ _ h => h
theorem Gr.trans {M M1 M2 : Mem} (a : Gr M M1) (b : Gr M1 M2) : Gr M M2 := fun i o h => b i o (a i o h)
theorem Gr.app {M : Mem} {xs : List MO} : Gr M (M ++ xs) := fun i o h => by
  rw [List.getElem?_append_left (List.getElem?_eq_some_iff.mp h).1]; exact h
theorem lt_of {M : Mem} {i : Nat} {o : MO} (h : M[i]? = some o) : i < M.length := (List.getElem?_eq_some_iff.mp h).1
theorem app_last {M : Mem} {o : MO} : (M ++ [o])[M.length]? = some o := by simp
def Ch (p : Nat → Prop) (M M' : Mem) : Prop := M.length ≤ M'.length ∧ ∀ (i : Nat) (o : MO), ¬ p i → M[i]? = some o → M'[i]? = some o
theorem Ch.refl {p : Nat → Prop} {M : Mem} : Ch p M M := ⟨Nat.le_refl _, fun _ _ _ h => h⟩
theorem Ch.trans {p : Nat → Prop} {M M1 M2 : Mem} (a : Ch p M M1) (b : Ch p M1 M2) : Ch p M M2 := ⟨Nat.le_trans a.1 b.1, fun i o n h => b.2 i o n (a.2 i o n h)⟩
theorem Ch.mono {p q : Nat → Prop} {M M1 : Mem} (a : Ch p M M1) (h : ∀ i, i < M.length → p i → q i) : Ch q M M1 := ⟨a.1, fun i o n e => a.2 i o (fun z => n (h i (lt_of e) z)) e⟩
theorem Gr.le {M M' : Mem} (h : Gr M M') : M.length ≤ M'.length := by
  by_cases z : M.length = 0
  · omega
  · have := lt_of (h (M.length - 1) _ (List.getElem?_eq_getElem (by omega)))
    omega
theorem Gr.ch {p : Nat → Prop} {M M' : Mem} (h : Gr M M') : Ch p M M' := ⟨h.le, fun i o _ e => h i o e⟩
theorem Ch.gr {M M' : Mem} (h : Ch (fun _ => False) M M') : Gr M M' := fun i o e => h.2 i o id e
theorem Ch.set {p : Nat → Prop} {M : Mem} {n : Nat} {o : MO} (h : p n) : Ch p M (M.set n o) := ⟨by simp, fun i x z e => by
  by_cases q : i = n
  · subst q; exact absurd h z
  · rw [List.getElem?_set_ne (Ne.symm q)]; exact e⟩
theorem Ch.app {p : Nat → Prop} {M : Mem} {xs : List MO} : Ch p M (M ++ xs) := Gr.app.ch
theorem set_get {M : Mem} {n : Nat} {o o' : MO} (h : M[n]? = some o') : (M.set n o)[n]? = some o := by
  rw [List.getElem?_set_self (lt_of h)]
theorem set_ne {M : Mem} {n m : Nat} {o x : MO} (h : M[n]? = some x) (hn : n ≠ m) : (M.set m o)[n]? = some x := by
  rw [List.getElem?_set_ne (Ne.symm hn)]; exact h
section
variable {κ : Type} [DecidableEq κ]
def val (l : List (κ × Int)) (k : κ) : Option Int := (l.find? fun p => decide (p.1 = k)).map (·.2)
def put (l : List (κ × Int)) (k : κ) (i : Int) : List (κ × Int) := if (l.any fun p => decide (p.1 = k)) = true then l.map (fun p => if p.1 = k then (p.1, i) else p) else l ++ [(k, i)]
@[simp] theorem val_nil {k : κ} : val ([] : List (κ × Int)) k = none := rfl
theorem val_cons {p : κ × Int} {l : List (κ × Int)} {k : κ} : val (p :: l) k = if p.1 = k then some p.2 else val l k := by
  by_cases h : p.1 = k <;> simp [val, h]
theorem any_val {l : List (κ × Int)} {k : κ} : (l.any fun p => decide (p.1 = k)) = (val l k).isSome := by
  induction l with
  | nil => rfl
  | cons p l ih => rw [List.any_cons, ih, val_cons]; by_cases h : p.1 = k <;> simp [h]
theorem val_map {l : List (κ × Int)} {k k' : κ} {i : Int} : val (l.map (fun p => if p.1 = k then (p.1, i) else p)) k' = if k' = k then (val l k).map fun _ => i else val l k' := by
  induction l with
  | nil => simp
  | cons p l ih =>
    rw [List.map_cons, val_cons, val_cons, val_cons, ih]
    by_cases h : p.1 = k
    · by_cases h' : k' = k
      · subst h'; simp [h]
      · simp [h, h', Ne.symm h', fun z : k = k' => h' z.symm]
    · by_cases h' : k' = k
      · subst h'; simp [h]
      · simp [h, h']
theorem val_app {l : List (κ × Int)} {k k' : κ} {i : Int} : val (l ++ [(k, i)]) k' = (val l k').or (if k = k' then some i else none) := by
  induction l with
  | nil => simp [val_cons]
  | cons p l ih => rw [List.cons_append, val_cons, val_cons, ih]; by_cases h : p.1 = k' <;> simp [h]
theorem val_put {l : List (κ × Int)} {k k' : κ} {i : Int} : val (put l k i) k' = if k' = k then some i else val l k' := by
  unfold put
  rw [any_val]
  split
  · rename_i h
    rw [val_map]
    obtain ⟨j, hj⟩ := Option.isSome_iff_exists.mp h
    simp [hj]
  · rename_i h
    rw [val_app]
    by_cases z : k' = k
    · subst z
      rw [Option.not_isSome_iff_eq_none.mp h]; simp
    · rw [if_neg (fun q : k = k' => z q.symm), if_neg z]; simp
theorem put_len {l : List (κ × Int)} {k : κ} {i : Int} : (put l k i).length ≤ l.length + 1 := by
  unfold put
  split <;> simp
theorem put_new {l : List (κ × Int)} {k : κ} {i : Int} (h : val l k = none) : put l k i = l ++ [(k, i)] := by
  unfold put
  rw [any_val, h]; rfl
variable {κ' : Type} [DecidableEq κ']
def enc (f : κ → κ') (l : List (κ × Int)) : List (κ' × D) := l.map fun p => (f p.1, .int p.2)
theorem enc_val {f : κ → κ'} (hf : ∀ a b, f a = f b → a = b) {l : List (κ × Int)} {k : κ} : valD (enc f l) (f k) = (val l k).map D.int := by
  induction l with
  | nil => rfl
  | cons p l ih =>
    rw [val_cons]
    have e : enc f (p :: l) = (f p.1, .int p.2) :: enc f l := rfl
    rw [e]
    by_cases h : p.1 = k
    · subst h; simp [valD]
    · have : f p.1 ≠ f k := fun z => h (hf _ _ z)
      have e2 : valD ((f p.1, .int p.2) :: enc f l) (f k) = valD (enc f l) (f k) := by simp [valD, this]
      rw [e2, ih]; simp [h]
theorem enc_put {f : κ → κ'} (hf : ∀ a b, f a = f b → a = b) {l : List (κ × Int)} {k : κ} {i : Int} : putG (enc f l) (f k) (.int i) = enc f (put l k i) := by
  have e : ((enc f l).any fun kv => decide (kv.1 = f k)) = (l.any fun p => decide (p.1 = k)) := by
    unfold enc
    rw [List.any_map]
    congr 1
    funext p
    have : (f p.1 = f k) = (p.1 = k) := propext ⟨hf _ _, fun z => by rw [z]⟩
    simp [this]
  unfold putG put
  rw [e]
  split
  · unfold enc
    rw [List.map_map, List.map_map]
    congr 1
    funext p
    by_cases h : p.1 = k
    · simp [h]
    · have : f p.1 ≠ f k := fun z => h (hf _ _ z)
      simp [h, this]
  · unfold enc
    simp
@[simp] theorem enc_len {f : κ → κ'} {l : List (κ × Int)} : (enc f l).length = l.length := by simp [enc]
end
def kS (s : Str) : Key := .inr s
def kA (a : Int × Int) : List Key := [.inl a.1, .inl a.2]
theorem kS_inj (a b : Str) (h : kS a = kS b) : a = b := by cases h; rfl
theorem kA_inj (a b : Int × Int) (h : kA a = kA b) : a = b := by
  obtain ⟨a1, a2⟩ := a
  obtain ⟨b1, b2⟩ := b
  simp [kA] at h
  simp [h]
structure ShAt (M : Mem) (r a b : Nat) (vs : List (Str × Int)) (as : List ((Int × Int) × Int)) : Prop where
  hr : M[r]? = some (.ins 0 [("amounts", .ref a), ("answered", .ref b)])
  ha : M[a]? = some (.dk (enc kS vs))
  hb : M[b]? = some (.dt (enc kA as)) ∨ M[b]? = some (.dk []) ∧ as = []
  lv : vs.length ≤ 1000
  la : as.length ≤ 1000
  ab : a ≠ b
theorem ShAt.gr {M M' : Mem} {r a b : Nat} {vs : List (Str × Int)} {as : List ((Int × Int) × Int)} (h : ShAt M r a b vs as) (g : Gr M M') : ShAt M' r a b vs as :=
  ⟨g _ _ h.hr, g _ _ h.ha, h.hb.imp (g _ _) fun z => ⟨g _ _ z.1, z.2⟩, h.lv, h.la, h.ab⟩
theorem ShAt.ch {p : Nat → Prop} {M M' : Mem} {r a b : Nat} {vs : List (Str × Int)} {as : List ((Int × Int) × Int)} (h : ShAt M r a b vs as) (g : Ch p M M') (pr : ¬ p r) (pa : ¬ p a) (pb : ¬ p b) : ShAt M' r a b vs as :=
  ⟨g.2 _ _ pr h.hr, g.2 _ _ pa h.ha, h.hb.imp (g.2 _ _ pb) fun z => ⟨g.2 _ _ pb z.1, z.2⟩, h.lv, h.la, h.ab⟩
section
variable {M : Mem} {r a b : Nat} {vs : List (Str × Int)} {as : List ((Int × Int) × Int)}
theorem ShAt.fa (h : ShAt M r a b vs as) : getF [0] "amounts" (.ref r) M = .ok (.ref a) M := getF_eq h.hr (by simp) rfl
theorem ShAt.fb (h : ShAt M r a b vs as) : getF [0] "answered" (.ref r) M = .ok (.ref b) M := getF_eq h.hr (by simp) rfl
theorem ShAt.me (h : ShAt M r a b vs as) {m : Str} (hm : ([("amounts", D.ref a), ("answered", D.ref b)] : List (Str × D)).lookup m = none) : isIns 0 m (.ref r) M = true := isIns_eq h.hr hm
end
def am (vs : List (Str × Int)) (s : Str) : Int := (val vs s).getD 0
theorem get_am {M : Mem} {n : Nat} {vs : List (Str × Int)} {s : Str} (h : M[n]? = some (.dk (enc kS vs))) : getO (.ref n) (.str s) (.int 0) M = .ok (.int (am vs s)) M := by
  have : dSee M n (.str s) = some ((val vs s).map D.int, M) := by
    rw [dSee_s h, ← enc_val kS_inj]; rfl
  simp only [getO, this, am]
  cases val vs s <;> rfl
theorem dput_s {M : Mem} {n : Nat} {vs : List (Str × Int)} {s : Str} {i : Int} (h : M[n]? = some (.dk (enc kS vs))) (hl : vs.length ≤ 1000) : dPut M (.ref n) (.str s) (.int i) = some (M.set n (.dk (enc kS (put vs s i)))) := by
  have hz : (enc kS vs).length < sizeLine := by
    rw [enc_len]
    have : 1000 < sizeLine := by decide
    omega
  simp only [dPut, h, toKey, if_pos hz, ← enc_put kS_inj]
  rfl
theorem value_ok {M : Mem} {r a b : Nat} {vs : List (Str × Int)} {as : List ((Int × Int) × Int)} {s : Str} (h : ShAt M r a b vs as) : m_Shelf_value_of [.ref r, .str s] M = .ok (.int (am vs s)) M := by
  simp only [m_Shelf_value_of, b_Shelf_value_of]
  simp [h.fa, isDic_k h.ha, get_am h.ha]
inductive Ord' where
  | putO (s : Str) (n : Int)
  | addO (s : Str) (n : Int)
  | swapO (s : Str) (o n : Int)
namespace Ord'
def d : Ord' → D
  | putO s n => .tup [.str "put", .str s, .int n]
  | addO s n => .tup [.str "add", .str s, .int n]
  | swapO s o n => .tup [.str "swap", .str s, .int o, .int n]
def nm : Ord' → Str
  | putO s _ => s
  | addO s _ => s
  | swapO s _ _ => s
def ans (vs : List (Str × Int)) : Ord' → Int
  | putO s _ => am vs s
  | addO s n => am vs s + n
  | swapO s o _ => if am vs s = o then 1 else 0
def to (vs : List (Str × Int)) : Ord' → List (Str × Int)
  | putO s n => put vs s n
  | addO s n => put vs s (am vs s + n)
  | swapO s o n => if am vs s = o then put vs s n else vs
end Ord'
theorem to_len {vs : List (Str × Int)} {o : Ord'} : (o.to vs).length ≤ vs.length + 1 := by
  cases o with
  | putO s n => exact put_len
  | addO s n => exact put_len
  | swapO s o n =>
    simp only [Ord'.to]
    split
    · exact put_len
    · omega
theorem obey_ok {M : Mem} {r a b : Nat} {vs : List (Str × Int)} {as : List ((Int × Int) × Int)} {o : Ord'} (h : ShAt M r a b vs as) : ∃ M', m_Shelf_obey [.ref r, o.d] M = .ok (.int (o.ans vs)) M' ∧ Ch (· = a) M M' ∧ M'[a]? = some (.dk (enc kS (o.to vs))) ∧ M'.length = M.length := by
  have dp : ∀ s i, dPut M (.ref a) (.str s) (.int i) = some (M.set a (.dk (enc kS (put vs s i)))) := fun s i => dput_s h.ha h.lv
  have vo : ∀ s, m_Shelf_value_of [.ref r, .str s] M = .ok (.int (am vs s)) M := fun s => value_ok h
  have me := h.me (m := "value_of") rfl
  cases o with
  | putO s n =>
    refine ⟨_, ?_, Ch.set (n := a) (o := .dk (enc kS (put vs s n))) rfl, set_get h.ha, by simp⟩
    simp only [m_Shelf_obey, b_Shelf_obey, i_Shelf_obey_1, i_Shelf_obey_2, i_Shelf_obey_3, Ord'.d]
    simp [me, vo, h.fa, dp, Ord'.ans]
  | addO s n =>
    refine ⟨_, ?_, Ch.set (n := a) (o := .dk (enc kS (put vs s (am vs s + n)))) rfl, set_get h.ha, by simp⟩
    simp only [m_Shelf_obey, b_Shelf_obey, i_Shelf_obey_1, i_Shelf_obey_2, i_Shelf_obey_3, Ord'.d]
    simp [me, vo, h.fa, dp, Ord'.ans]
  | swapO s o n =>
    by_cases z : am vs s = o
    · refine ⟨_, ?_, Ch.set (n := a) (o := .dk (enc kS (put vs s n))) rfl, by simp only [Ord'.to, if_pos z]; exact set_get h.ha, by simp⟩
      simp only [m_Shelf_obey, b_Shelf_obey, i_Shelf_obey_1, i_Shelf_obey_2, i_Shelf_obey_3, Ord'.d]
      simp [me, vo, h.fa, dp, Ord'.ans, z]
    · refine ⟨M, ?_, Ch.refl, by simp only [Ord'.to, if_neg z]; exact h.ha, rfl⟩
      simp only [m_Shelf_obey, b_Shelf_obey, i_Shelf_obey_1, i_Shelf_obey_2, i_Shelf_obey_3, Ord'.d]
      simp [me, vo, h.fa, dp, Ord'.ans, z]
theorem toKeys_a {w n : Int} : toKeys [.int w, .int n] = some (kA (w, n)) := rfl
theorem dSee_a {M : Mem} {r a b : Nat} {vs : List (Str × Int)} {as : List ((Int × Int) × Int)} {w n : Int} (h : ShAt M r a b vs as) : ∃ M0, dSee M b (.tup [.int w, .int n]) = some ((val as (w, n)).map D.int, M0) ∧ M0[b]? = some (.dt (enc kA as)) ∧ Ch (· = b) M M0 ∧ M0.length = M.length := by
  rcases h.hb with q | ⟨q, rfl⟩
  · refine ⟨M, ?_, q, Ch.refl, rfl⟩
    rw [dSee_t q toKeys_a, enc_val kA_inj]
  · exact ⟨_, dSee_e q toKeys_a, set_get q, Ch.set rfl, by simp⟩
def doA (vs : List (Str × Int)) (as : List ((Int × Int) × Int)) (k : Int × Int) (o : Ord') : Int := (val as k).getD (o.ans vs)
def doV (vs : List (Str × Int)) (as : List ((Int × Int) × Int)) (k : Int × Int) (o : Ord') : List (Str × Int) := if (val as k).isSome then vs else o.to vs
def doS (vs : List (Str × Int)) (as : List ((Int × Int) × Int)) (k : Int × Int) (o : Ord') : List ((Int × Int) × Int) := if (val as k).isSome then as else put as k (o.ans vs)
theorem do_ok {M : Mem} {r a b : Nat} {vs : List (Str × Int)} {as : List ((Int × Int) × Int)} {o : Ord'} {w n : Int} (h : ShAt M r a b vs as) (hv : vs.length < 1000) (ha : as.length < 1000) :
    ∃ M', m_Shelf_do [.ref r, .int w, .int n, o.d] M = .ok (.int (doA vs as (w, n) o)) M' ∧ ShAt M' r a b (doV vs as (w, n) o) (doS vs as (w, n) o) ∧ Ch (fun i => i = a ∨ i = b) M M' ∧ M'.length = M.length := by
  have rb : r ≠ b := fun z => by subst z; rcases h.hb with q | q <;> rw [h.hr] at q <;> simp at q
  have ra : r ≠ a := fun z => by subst z; have := h.ha; rw [h.hr] at this; cases this
  obtain ⟨M0, d0, b0, c0, l0⟩ := dSee_a (w := w) (n := n) h
  have h0 : ShAt M0 r a b vs as := ⟨c0.2 _ _ rb h.hr, c0.2 _ _ h.ab h.ha, .inl b0, h.lv, h.la, h.ab⟩
  have ni : sNotIn (.tup [.int w, .int n]) (.ref b) M = .ok (.bl (!(val as (w, n)).isSome)) M0 := orOp_ok (by simp [sInD, d0])
  have ix : ∀ {M' : Mem} {as' : List ((Int × Int) × Int)} {x : Int}, M'[b]? = some (.dt (enc kA as')) → val as' (w, n) = some x → sIx (.ref b) (.tup [.int w, .int n]) M' = .ok (.int x) M' := fun {M' as' x} hb hx => by
    have : dSee M' b (.tup [.int w, .int n]) = some (some (.int x), M') := by rw [dSee_t hb toKeys_a, enc_val kA_inj, hx]; rfl
    refine orOp_ok ((orOp_bad rfl).trans ?_)
    simp only [sIxD, this]
  cases z : val as (w, n) with
  | some x =>
    refine ⟨M0, ?_, by simpa [doV, doS, z] using h0, c0.mono (fun i _ q => .inr q), l0⟩
    rw [z] at ni
    simp only [m_Shelf_do, b_Shelf_do, i_Shelf_do_1]
    simp [h.fb, ni, h0.fb, ix b0 z, doA, z]
  | none =>
    obtain ⟨M1, e1, c1, a1, l1⟩ := obey_ok (o := o) h0
    have b1 := c1.2 _ _ (Ne.symm h.ab) b0
    have r1 := c1.2 _ _ ra h0.hr
    have f1 : getF [0] "answered" (.ref r) M1 = .ok (.ref b) M1 := getF_eq r1 (by simp) rfl
    have hz : (enc kA as).length < sizeLine := by
      rw [enc_len]
      have : 1000 < sizeLine := by decide
      omega
    have dp : dPut M1 (.ref b) (.tup [.int w, .int n]) (.int (o.ans vs)) = some (M1.set b (.dt (enc kA (put as (w, n) (o.ans vs))))) := by
      simp only [dPut, b1, toKeys_a, if_pos hz, ← enc_put kA_inj]
    have b2 : (M1.set b (.dt (enc kA (put as (w, n) (o.ans vs)))))[b]? = some (.dt (enc kA (put as (w, n) (o.ans vs)))) := set_get b1
    have r2 : (M1.set b (.dt (enc kA (put as (w, n) (o.ans vs)))))[r]? = _ := set_ne r1 rb
    have f2 : getF [0] "answered" (.ref r) (M1.set b (.dt (enc kA (put as (w, n) (o.ans vs))))) = .ok (.ref b) (M1.set b (.dt (enc kA (put as (w, n) (o.ans vs))))) := getF_eq r2 (by simp) rfl
    have x2 := ix b2 (by rw [val_put, if_pos rfl])
    refine ⟨M1.set b (.dt (enc kA (put as (w, n) (o.ans vs)))), ?_, ?_, ?_, by simp [l1, l0]⟩
    · rw [z] at ni
      simp only [m_Shelf_do, b_Shelf_do, i_Shelf_do_1]
      simp [h.fb, ni, h0.me (m := "obey") rfl, e1, f1, dp, f2, x2, doA, z]
    · simp only [doV, doS, z]
      exact ⟨r2, set_ne a1 h.ab, .inl b2, by have := to_len (vs := vs) (o := o); simp; omega, by have := put_len (l := as) (k := (w, n)) (i := o.ans vs); simp; omega, h.ab⟩
    · exact ((c0.mono fun i _ q => .inr q).trans (c1.mono fun i _ q => .inl q)).trans (Ch.set (.inr rfl))
theorem sh_init {M : Mem} : ∃ M', m_Shelf_init [.ref M.length] (M ++ [.ins 0 []]) = .ok .non M' ∧ ShAt M' M.length (M.length + 1) (M.length + 2) [] [] ∧ Gr M M' ∧ M'.length = M.length + 3 := by
  have h0 : (M ++ [MO.ins 0 []] ++ [.dk []])[M.length]? = some (.ins 0 []) := by simp
  have e1 : putF' [0] "amounts" (.ref (M.length + 1)) (.ref M.length) (M ++ [MO.ins 0 []] ++ [.dk []]) = some (M ++ [.ins 0 [("amounts", .ref (M.length + 1))], .dk []]) := by
    rw [putF_eq h0 (by simp) (by simp)]; simp [putD]
  have h1 : (M ++ [MO.ins 0 [("amounts", .ref (M.length + 1))], .dk []] ++ [.dk []])[M.length]? = some (.ins 0 [("amounts", .ref (M.length + 1))]) := by simp
  have e2 : putF' [0] "answered" (.ref (M.length + 2)) (.ref M.length) (M ++ [MO.ins 0 [("amounts", .ref (M.length + 1))], .dk []] ++ [.dk []]) = some (M ++ [.ins 0 [("amounts", .ref (M.length + 1)), ("answered", .ref (M.length + 2))], .dk [], .dk []]) := by
    rw [putF_eq h1 (by simp) (by simp)]; simp [putD]; decide
  refine ⟨_, ?_, ⟨?_, ?_, .inr ⟨?_, rfl⟩, by simp, by simp, by omega⟩, Gr.app (xs := [.ins 0 [("amounts", .ref (M.length + 1)), ("answered", .ref (M.length + 2))], .dk [], .dk []]), by simp⟩
  · simp only [m_Shelf_init, b_Shelf_init]
    simp at e1 e2
    simp [e1, e2]
  · simp
  · simp [enc]
  · simp
def vRow (p : Str × Int) : D := .tup [.str p.1, .int p.2]
def aRow (p : (Int × Int) × Int) : D := .tup [.tup [.int p.1.1, .int p.1.2], .int p.2]
def nz : D → Bool
  | .tup [_, .int i] => !decide (i = 0)
  | _ => true
def flat3 : D → D
  | .tup [.tup [x, y], z] => .tup [x, y, z]
  | d => d
def vTold (vs : List (Str × Int)) : List D := (srtD (vs.map vRow)).filter nz
def aTold (as : List ((Int × Int) × Int)) : List D := (srtD (as.map aRow)).map flat3
def toldD (vs : List (Str × Int)) (as : List ((Int × Int) × Int)) : D := .tup [.tup (vTold vs), .tup (aTold as)]
theorem srt_v (vs : List (Str × Int)) : Srt (vs.map vRow) := .rows 1 [0] fun d hd => by
  obtain ⟨p, _, rfl⟩ := List.mem_map.mp hd
  exact ⟨_, rfl⟩
theorem srt_a (as : List ((Int × Int) × Int)) : Srt (as.map aRow) := .rows 4 [0] fun d hd => by
  obtain ⟨p, _, rfl⟩ := List.mem_map.mp hd
  exact ⟨_, rfl⟩
theorem items_v {M : Mem} {n : Nat} {vs : List (Str × Int)} (h : M[n]? = some (.dk (enc kS vs))) : itemsD M n = some (vs.map fun p => (.str p.1, .int p.2)) := by
  simp only [itemsD, h, enc, List.map_map]
  rfl
theorem items_a {M : Mem} {n : Nat} {as : List ((Int × Int) × Int)} (h : M[n]? = some (.dt (enc kA as)) ∨ M[n]? = some (.dk []) ∧ as = []) : itemsD M n = some (as.map fun p => (.tup [.int p.1.1, .int p.1.2], .int p.2)) := by
  rcases h with h | ⟨h, rfl⟩
  · simp only [itemsD, h, enc, List.map_map]
    rfl
  · simp only [itemsD, h]
    rfl
theorem told_ok {M : Mem} {r a b : Nat} {vs : List (Str × Int)} {as : List ((Int × Int) × Int)} (h : ShAt M r a b vs as) (hv : vs.length < 64) (ha : as.length < 64) : ∃ M', m_Shelf_told [.ref r] M = .ok (toldD vs as) M' ∧ Gr M M' := by
  have s1 := sortedI_of (items_v h.ha) (by rw [List.map_map]; exact srt_v vs) (by simpa using hv)
  have e1 : (vs.map fun p => ((.str p.1, .int p.2) : D × D)).map pairD = vs.map vRow := by rw [List.map_map]; rfl
  rw [e1] at s1
  obtain ⟨M1, hM1⟩ : ∃ M1, M1 = M ++ [.lst (srtD (vs.map vRow))] := ⟨_, rfl⟩
  have l1 : M1[M.length]? = some (.lst (srtD (vs.map vRow))) := by rw [hM1]; exact app_last
  have g1 : Gr M M1 := by rw [hM1]; exact Gr.app
  obtain ⟨M2, hM2⟩ : ∃ M2, M2 = M1 ++ [.lst (vTold vs)] := ⟨_, rfl⟩
  have l2 : M2[M1.length]? = some (.lst (vTold vs)) := by rw [hM2]; exact app_last
  have g2 : Gr M1 M2 := by rw [hM2]; exact Gr.app
  have c1 := cpGo_filter (src := some (M.length, srtD (vs.map vRow))) (tt := mTest (mBin sNe (mBin sIx (mVar 0) (mC (.int 1))) (mC (.int 0)))) (te := mVar 0) (ce := []) (M := M1) nz id (ds := srtD (vs.map vRow)) (ys := []) (lstOf_lst l1) fun d hd => by
    obtain ⟨p, _, rfl⟩ := List.mem_map.mp ((srtD_perm _).mem_iff.mp hd)
    simp [vRow, nz]
  rw [List.nil_append, List.map_id] at c1
  rw [show M1 ++ [MO.lst ((srtD (vs.map vRow)).filter nz)] = M2 from hM2.symm] at c1
  have h2 := h.gr (g1.trans g2)
  have s2 := sortedI_of (items_a h2.hb) (by rw [List.map_map]; exact srt_a as) (by simpa using ha)
  have e2 : (as.map fun p => ((.tup [.int p.1.1, .int p.1.2], .int p.2) : D × D)).map pairD = as.map aRow := by rw [List.map_map]; rfl
  rw [e2] at s2
  obtain ⟨M3, hM3⟩ : ∃ M3, M3 = M2 ++ [.lst (srtD (as.map aRow))] := ⟨_, rfl⟩
  have l3 : M3[M2.length]? = some (.lst (srtD (as.map aRow))) := by rw [hM3]; exact app_last
  have g3 : Gr M2 M3 := by rw [hM3]; exact Gr.app
  obtain ⟨M4, hM4⟩ : ∃ M4, M4 = M3 ++ [.lst (aTold as)] := ⟨_, rfl⟩
  have l4 : M4[M3.length]? = some (.lst (aTold as)) := by rw [hM4]; exact app_last
  have g4 : Gr M3 M4 := by rw [hM4]; exact Gr.app
  have c2 := cpGoT_map (src := some (M2.length, srtD (as.map aRow))) (g := gT 2 (gCons' (gN 0) (gCons' (gN 1) gNil'))) (n := 2) (tt := mAll) (te := mBin sAdd (mVar 0) (mTup (mCons (mVar 1) mNil))) (ce := []) (M := M3) (fun _ => true) flat3 (ds := srtD (as.map aRow)) (ys := []) (lstOf_lst l3) fun d hd => by
    obtain ⟨p, _, rfl⟩ := List.mem_map.mp ((srtD_perm _).mem_iff.mp hd)
    refine ⟨_, rfl, rfl, fun _ => ?_⟩
    have : sAdd (.tup [.int p.1.1, .int p.1.2]) (.tup [.int p.2]) M3 = .ok (.tup [.int p.1.1, .int p.1.2, .int p.2]) M3 := rfl
    simp [nosE, this, flat3, aRow]
  rw [List.nil_append, List.filter_eq_self.mpr (fun _ _ => rfl)] at c2
  rw [show M3 ++ [MO.lst ((srtD (as.map aRow)).map flat3)] = M4 from hM4.symm] at c2
  refine ⟨M4, ?_, ((g1.trans g2).trans g3).trans g4⟩
  have t1 := sTuple_ref (g4 _ _ (g3 _ _ l2))
  have t2 := sTuple_ref l4
  simp only [m_Shelf_told, b_Shelf_told]
  simp [h.fa, s1, ← hM1, itOf_ref l1, capE, c1, h2.fb, s2, ← hM3, itOf_ref l3, c2, t1, t2, toldD]
theorem aTold_len (as : List ((Int × Int) × Int)) : (aTold as).length = as.length := by
  have := (srtD_perm (as.map aRow)).length_eq
  simp [aTold, this]
theorem cell_ok {M : Mem} (ns : List Int) (k : Nat) {kk : Int} (hk : kk = k) : m_law_cell_at [.cl (ns.map D.int), .int kk] M = .ok (.int (cell ns k)) M := by
  subst hk
  simp only [m_law_cell_at, b_law_cell_at, i_law_cell_at_1]
  by_cases h : k < ns.length
  · have e : sIx (.cl (ns.map D.int)) (.int k) M = .ok (.int ns[k]) M := sIx_cl (by omega) (by simp [h])
    simp [h, e, cell]
  · simp [h, cell]
def StrOk (n : Nat) (xs : List Int) : Prop := xs.length = n ∧ ∀ x ∈ xs, 0 ≤ x ∧ x < 2147483647
structure StrInv (M : Mem) (c : Int) (n i : Nat) (e : Sl) (M' : Mem) : Prop where
  h : ∃ (xs : List Int) (num : Int) (v3 v : Option D), StrOk i xs ∧ 0 ≤ num ∧ num < 2147483647 ∧ e = [some (.int c), some (.int n), some (.ref M.length), v3, v, some (.int num)] ∧ M' = M ++ [.lst (xs.map D.int)]
theorem modP (z : Int) : 0 ≤ z % 2147483647 ∧ z % 2147483647 < 2147483647 := ⟨Int.emod_nonneg _ (by omega), Int.emod_lt_of_pos _ (by omega)⟩
theorem StrOk.snoc {i : Nat} {xs : List Int} {z : Int} (h : StrOk i xs) (h0 : 0 ≤ z) (h1 : z < 2147483647) : StrOk (i + 1) (xs ++ [z]) := ⟨by simp [h.1], fun x hm => by
  rcases List.mem_append.mp hm with q | q
  · exact h.2 x q
  · rw [List.mem_singleton.mp q]; exact ⟨h0, h1⟩⟩
theorem str_turn {M : Mem} {c : Int} {n i : Nat} {d : D} {e : Sl} {M2 : Mem} (hn : n ≤ 1000) (hd : (rng 0 n)[i]? = some d) (h : StrInv M c n i e M2) : ∃ e1, gN 4 d e = some e1 ∧
    (t_law_stream_4 e1 M2).to (StrInv M c n (i + 1)) fun _ _ => False := by
  obtain ⟨xs, num, v3, v, hx, h0, h1, rfl, rfl⟩ := h
  obtain ⟨hi, rfl⟩ := rng_get hd
  refine ⟨_, rfl, ?_⟩
  have a1 : sDiv (.int num) (.int 1009) (M ++ [.lst (xs.map D.int)]) = .ok (.int (num / 1009)) (M ++ [.lst (xs.map D.int)]) := sDiv_int (by omega) (by omega)
  have a2 : sMul (.int num) (.int (num / 1009 + 69621)) (M ++ [.lst (xs.map D.int)]) = .ok (.int (num * (num / 1009 + 69621))) (M ++ [.lst (xs.map D.int)]) := sMul_int (.inl (by constructor <;> omega))
  have a3 : ∀ z : Int, sMod (.int z) (.int 2147483647) (M ++ [.lst (xs.map D.int)]) = .ok (.int (z % 2147483647)) (M ++ [.lst (xs.map D.int)]) := fun z => sMod_int (by omega)
  have a4 : tyD "list" (.ref M.length) (M ++ [.lst (xs.map D.int)]) = true := tyD_list app_last
  have a5 : ∀ z : Int, sAppend (.ref M.length) [.int z] (M ++ [.lst (xs.map D.int)]) = .ok .non (M ++ [.lst ((xs ++ [z]).map D.int)]) := fun z => by
    rw [sAppend_ref app_last (by rw [List.length_map, hx.1]; omega)]
    simp
  simp [t_law_stream_4, a1, a2, a3, a4, a5]
  exact ⟨xs ++ [(num * (num / 1009 + 69621) + i + 1) % 2147483647], (num * (num / 1009 + 69621) + i + 1) % 2147483647, _, _, hx.snoc (modP _).1 (modP _).2, (modP _).1, (modP _).2, rfl, by simp⟩
structure DigInv (M : Mem) (c : Int) (n i : Nat) (e : Sl) (M' : Mem) : Prop where
  h : ∃ (xs : List Int) (num : Int) (v5 v : Option D), StrOk i xs ∧ e = [some (.int c), some (.int n), some (.ref M.length), some (.int num), v, v5] ∧ M' = M ++ [.lst (xs.map D.int)]
theorem dig_turn {M : Mem} {c : Int} {n i : Nat} {d : D} {e : Sl} {M2 : Mem} (hn : n ≤ 1000) (hd : (rng 0 n)[i]? = some d) (h : DigInv M c n i e M2) : ∃ e1, gN 4 d e = some e1 ∧
    (t_law_stream_1 e1 M2).to (DigInv M c n (i + 1)) fun _ _ => False := by
  obtain ⟨xs, num, v5, v, hx, rfl, rfl⟩ := h
  obtain ⟨hi, rfl⟩ := rng_get hd
  refine ⟨_, rfl, ?_⟩
  have pw : ∀ M : Mem, sPow (.int 10) (.int 9) M = .ok (.int 1000000000) M := fun M => by rw [sPow_int (by decide)]; rfl
  have a1 : ∀ (z : Int) (M : Mem), sDiv (.int z) (.int 1000000000) M = .ok (.int (z / 1000000000)) M := fun z M => sDiv_int (by omega) (by omega)
  have a3 : ∀ (z : Int) (M : Mem), sMod (.int z) (.int 1000000000) M = .ok (.int (z % 1000000000)) M := fun z M => sMod_int (by omega)
  have a4 : tyD "list" (.ref M.length) (M ++ [.lst (xs.map D.int)]) = true := tyD_list app_last
  have a5 : ∀ z : Int, sAppend (.ref M.length) [.int z] (M ++ [.lst (xs.map D.int)]) = .ok .non (M ++ [.lst ((xs ++ [z]).map D.int)]) := fun z => by
    rw [sAppend_ref app_last (by rw [List.length_map, hx.1]; omega)]
    simp
  simp [t_law_stream_1, pw, a1, a3, a4, a5]
  exact ⟨xs ++ [num % 1000000000], _, _, _, hx.snoc (Int.emod_nonneg _ (by omega)) (by have := Int.emod_lt_of_pos num (b := 1000000000) (by omega); omega), rfl, by simp⟩
theorem stream_ok {M : Mem} (c : Int) (n : Nat) {nn : Int} (hnn : nn = n) (hn : n ≤ 1000) : ∃ xs : List Int, StrOk n xs ∧ m_law_stream [.int c, .int nn] M = .ok (.ref M.length) (M ++ [.lst (xs.map D.int)]) := by
  subst hnn
  have e1 : sMul (.int c) (.int 48271) (M ++ [.lst []]) = .ok (.int (c * 48271)) (M ++ [.lst []]) := sMul_int (.inr (by omega))
  have e2 : ∀ z : Int, sMod (.int z) (.int 2147483647) (M ++ [.lst []]) = .ok (.int (z % 2147483647)) (M ++ [.lst []]) := fun z => sMod_int (by omega)
  have e4 : sMod (.int c) (.int 2) (M ++ [.lst []]) = .ok (.int (c % 2)) (M ++ [.lst []]) := sMod_int (by omega)
  have e5 : sDiv (.int c) (.int 2) (M ++ [.lst []]) = .ok (.int (c / 2)) (M ++ [.lst []]) := sDiv_int (by omega) (by omega)
  have e3 : rng1 [.int n] (M ++ [.lst []]) = .ok ⟨none, rng 0 n⟩ (M ++ [.lst []]) := by
    have := rng1_int (M := M ++ [.lst []]) (j := n) (by omega) (by omega)
    simpa using this
  by_cases z : c % 2 = 1
  · obtain ⟨e', M', hl, hh⟩ := forGo_end (DigInv M c n) (ds := rng 0 n) (e := [some (.int c), some (.int n), some (.ref M.length), some (.int (c / 2)), none, none]) (M := M ++ [.lst []]) (src := none)
      ⟨[], _, none, none, ⟨rfl, by simp⟩, rfl, rfl⟩ (fun _ _ _ _ _ => trivial) fun i d e M2 hd h => dig_turn hn hd h
    obtain ⟨xs, num, v5, v, hx, rfl, rfl⟩ := hh
    rw [rng_len] at hx
    refine ⟨xs, hx, ?_⟩
    simp only [m_law_stream, b_law_stream, i_law_stream_3, f_law_stream_2]
    simp [e4, e5, z, e3, hl]
  · obtain ⟨e', M', hl, hh⟩ := forGo_end (StrInv M c n) (ds := rng 0 n) (e := [some (.int c), some (.int n), some (.ref M.length), none, none, some (.int ((c * 48271 + 7919) % 2147483647))]) (M := M ++ [.lst []]) (src := none)
      ⟨[], _, none, none, ⟨rfl, by simp⟩, (modP _).1, (modP _).2, rfl, rfl⟩ (fun _ _ _ _ _ => trivial) fun i d e M2 hd h => str_turn hn hd h
    obtain ⟨xs, num, v3, v, hx, _, _, rfl, rfl⟩ := hh
    rw [rng_len] at hx
    refine ⟨xs, hx, ?_⟩
    simp only [m_law_stream, b_law_stream, i_law_stream_3, f_law_stream_5]
    simp [e4, z, e1, e2, e3, hl]
theorem str_get {n : Nat} {xs : List Int} (h : StrOk n xs) {i : Nat} (hi : i < n) : ∃ x, xs[i]? = some x ∧ 0 ≤ x ∧ x < 2147483647 := by
  have hl : i < xs.length := by rw [h.1]; exact hi
  exact ⟨xs[i], List.getElem?_eq_getElem hl, h.2 _ (List.getElem_mem hl)⟩
theorem ix_ints {M : Mem} {n i : Nat} {xs : List Int} {x : Int} {k : Int} (hM : M[n]? = some (.lst (xs.map D.int))) (hk : k = i) (h : xs[i]? = some x) : sIx (.ref n) (.int k) M = .ok (.int x) M :=
  sIx_ref hM (by omega) (by subst hk; simp [h])
theorem stream_ok' {M : Mem} (c : Int) (n : Nat) {nn : Int} (hnn : nn = n) (hn : n ≤ 1000) : ∃ xs x M1, StrOk n xs ∧ m_law_stream [.int c, .int nn] M = .ok (.ref x) M1 ∧ M1[x]? = some (.lst (xs.map D.int)) ∧ Gr M M1 := by
  obtain ⟨xs, h, e⟩ := stream_ok (M := M) c n hnn hn
  exact ⟨xs, _, _, h, e, app_last, Gr.app⟩
theorem modP' (z : Int) {j : Int} (h : 0 < j) : 0 ≤ z % j ∧ z % j < j := ⟨Int.emod_nonneg _ (by omega), Int.emod_lt_of_pos _ h⟩
theorem pickN {M : Mem} {n : Nat} {ds : List D} {z j : Int} (h : M[n]? = some (.lst ds)) (hj : j = ds.length) (h0 : 0 < j) : ∃ d ∈ ds, sIx (.ref n) (.int (z % j)) M = .ok d M := by
  have := modP' z h0
  have hl : (z % j).toNat < ds.length := by omega
  exact ⟨ds[(z % j).toNat], List.getElem_mem hl, sIx_ref h this.1 (List.getElem?_eq_getElem hl)⟩
def Dat (k : Nat) (d : D) : Prop := ∃ t, ∀ M : Mem, toDt M k d = some t
theorem dat_int {k : Nat} {i : Int} : Dat (k + 1) (.int i) := ⟨_, fun _ => rfl⟩
theorem dat_str {k : Nat} {i : Str} : Dat (k + 1) (.str i) := ⟨_, fun _ => rfl⟩
theorem dat_all {k : Nat} {ds : List D} (h : ∀ d ∈ ds, Dat k d) : ∃ ts, ∀ M : Mem, mapO (toDt M k) ds = some ts := by
  induction ds with
  | nil => exact ⟨[], fun M => rfl⟩
  | cons d r ih =>
    obtain ⟨ts, q⟩ := ih fun x hx => h x (List.mem_cons_of_mem _ hx)
    obtain ⟨t, q2⟩ := h d List.mem_cons_self
    exact ⟨t :: ts, fun M => by simp only [mapO, q2 M, q M]⟩
theorem dat_tup {k : Nat} {ds : List D} (h : ∀ d ∈ ds, Dat k d) : Dat (k + 1) (.tup ds) := by
  obtain ⟨ts, q⟩ := dat_all h
  exact ⟨.tup ts, fun M => by show (mapO (toDt M k) ds).map Dt.tup = _; rw [q M]; rfl⟩
theorem dat_eq {d : D} (h : Dat 12 d) (M : Mem) : eqD M d d = some true := by
  obtain ⟨t, q⟩ := h
  exact eqD_self (q M)
theorem dat_lists {M : Mem} {n m : Nat} {ds : List D} (h : ∀ d ∈ ds, Dat 11 d) (h1 : M[n]? = some (.lst ds)) (h2 : M[m]? = some (.lst ds)) : eqD M (.ref n) (.ref m) = some true := by
  obtain ⟨ts, q⟩ := dat_all h
  have e : ∀ {n : Nat}, M[n]? = some (.lst ds) → toDt M 12 (.ref n) = some (.lst ts) := fun {n} h => by
    show (match lstOf M n with | some ds => (mapO (toDt M 11) ds).map Dt.lst | none => none) = _
    rw [lstOf_lst h]
    show (mapO (toDt M 11) ds).map Dt.lst = _
    rw [q M]
    rfl
  rw [eqD_of (e h1) (e h2), deq_refl]
theorem dat_vrow {k : Nat} {p : Str × Int} : Dat (k + 2) (vRow p) := dat_tup fun d hd => by
  simp at hd
  rcases hd with rfl | rfl
  · exact dat_str
  · exact dat_int
theorem mem_vTold {vs : List (Str × Int)} {d : D} (h : d ∈ vTold vs) : ∃ p ∈ vs, d = vRow p ∧ p.2 ≠ 0 := by
  obtain ⟨h1, h2⟩ := List.mem_filter.mp h
  obtain ⟨p, hp, rfl⟩ := List.mem_map.mp ((srtD_perm _).mem_iff.mp h1)
  exact ⟨p, hp, rfl, by simpa [nz, vRow] using h2⟩
theorem mem_aTold {as : List ((Int × Int) × Int)} {d : D} (h : d ∈ aTold as) : ∃ p ∈ as, d = .tup [.int p.1.1, .int p.1.2, .int p.2] := by
  obtain ⟨e, h1, rfl⟩ := List.mem_map.mp h
  obtain ⟨p, hp, rfl⟩ := List.mem_map.mp ((srtD_perm _).mem_iff.mp h1)
  exact ⟨p, hp, rfl⟩
theorem dat_told {vs : List (Str × Int)} {as : List ((Int × Int) × Int)} {k : Nat} : Dat (k + 5) (toldD vs as) := dat_tup fun d hd => by
  simp at hd
  rcases hd with rfl | rfl
  · refine dat_tup fun d hd => ?_
    obtain ⟨p, _, rfl, _⟩ := mem_vTold hd
    exact dat_vrow
  · refine dat_tup fun d hd => ?_
    obtain ⟨p, _, rfl⟩ := mem_aTold hd
    refine dat_tup fun d hd => ?_
    simp at hd
    rcases hd with rfl | rfl | rfl <;> exact dat_int
theorem told_ne {M : Mem} {vs : List (Str × Int)} {as : List ((Int × Int) × Int)} : sNe (toldD vs as) (toldD vs as) M = .ok (.bl false) M := sNe_of (dat_eq dat_told M)
theorem told_ix1 {M : Mem} {vs : List (Str × Int)} {as : List ((Int × Int) × Int)} : sIx (toldD vs as) (.int 1) M = .ok (.tup (aTold as)) M := by
  unfold toldD; exact sIx_tup1
def LK (M M' : Mem) : Prop := ∀ (j : Nat) (ds : List D), M[j]? = some (.lst ds) → M'[j]? = some (.lst ds)
theorem LK.refl {M : Mem} : LK M M := fun _ _ h => h
theorem LK.trans {M M1 M2 : Mem} (a : LK M M1) (b : LK M1 M2) : LK M M2 := fun j ds h => b j ds (a j ds h)
theorem Gr.lk {M M' : Mem} (g : Gr M M') : LK M M' := fun j ds h => g _ _ h
def IsDc (M : Mem) (j : Nat) : Prop := (∃ kvs, M[j]? = some (.dk kvs)) ∨ ∃ kvs, M[j]? = some (.dt kvs)
theorem Ch.lk {p : Nat → Prop} {M M' : Mem} (g : Ch p M M') (h : ∀ j, p j → IsDc M j) : LK M M' := fun j ds e => g.2 _ _ (fun z => by
  rcases h j z with ⟨_, q⟩ | ⟨_, q⟩ <;> rw [e] at q <;> cases q) e
theorem cut_map {α β : Type} (f : α → β) (xs : List α) (lo hi : Option Int) : cut (xs.map f) lo hi = (cut xs lo hi).map f := by
  unfold cut
  rw [List.length_map, List.map_take, List.map_drop]
section
variable {κ : Type} [DecidableEq κ]
def Nd (l : List (κ × Int)) : Prop := (l.map Prod.fst).Nodup
theorem val_mem {l : List (κ × Int)} {k : κ} {i : Int} (h : val l k = some i) : (k, i) ∈ l := by
  induction l with
  | nil => cases h
  | cons p l ih =>
    rw [val_cons] at h
    split at h
    · rename_i e
      cases h
      subst e
      exact List.mem_cons_self
    · exact List.mem_cons_of_mem _ (ih h)
theorem mem_val {l : List (κ × Int)} (nd : Nd l) {k : κ} {i : Int} (h : (k, i) ∈ l) : val l k = some i := by
  induction l with
  | nil => cases h
  | cons p l ih =>
    unfold Nd at nd
    rw [List.map_cons, List.nodup_cons] at nd
    rw [val_cons]
    rcases List.mem_cons.mp h with rfl | h
    · rw [if_pos rfl]
    · rw [if_neg (fun z => nd.1 (by rw [z]; exact List.mem_map_of_mem (f := Prod.fst) h)), ih nd.2 h]
theorem val_none {l : List (κ × Int)} {k : κ} (h : val l k = none) : k ∉ l.map Prod.fst := by
  induction l with
  | nil => simp
  | cons p l ih =>
    rw [val_cons] at h
    split at h
    · cases h
    · rename_i e
      rw [List.map_cons, List.mem_cons]
      rintro (z | z)
      · exact e z.symm
      · exact ih h z
theorem Nd.put {l : List (κ × Int)} (nd : Nd l) (k : κ) (i : Int) : Nd (put l k i) := by
  cases z : val l k with
  | none =>
    rw [put_new z]
    unfold Nd
    rw [List.map_append, List.nodup_append]
    refine ⟨nd, by simp, fun a ha b hb => ?_⟩
    simp at hb
    subst hb
    exact fun e => val_none z (by rw [← e]; exact ha)
  | some j =>
    unfold My.put
    rw [any_val, z]
    simp only [Option.isSome_some, if_true]
    unfold Nd
    rw [List.map_map]
    have : (Prod.fst ∘ fun (p : κ × Int) => if p.1 = k then (p.1, i) else p) = Prod.fst := by
      funext p
      simp only [Function.comp]
      split <;> rfl
    rw [this]
    exact nd
theorem Nd.nodup {l : List (κ × Int)} (nd : Nd l) : l.Nodup := by
  induction l with
  | nil => exact List.nodup_nil
  | cons p l ih =>
    unfold Nd at nd
    rw [List.map_cons, List.nodup_cons] at nd
    exact List.nodup_cons.mpr ⟨fun h => nd.1 (List.mem_map_of_mem (f := Prod.fst) h), ih nd.2⟩
theorem Nd.filter {l : List (κ × Int)} (nd : Nd l) (p : κ × Int → Bool) : Nd (l.filter p) := by
  induction l with
  | nil => exact nd
  | cons a l ih =>
    unfold Nd at nd
    rw [List.map_cons, List.nodup_cons] at nd
    rw [List.filter_cons]
    split
    · unfold Nd
      rw [List.map_cons, List.nodup_cons]
      refine ⟨fun h => nd.1 ?_, ih nd.2⟩
      obtain ⟨q, hq, e⟩ := List.mem_map.mp h
      rw [← e]
      exact List.mem_map_of_mem (f := Prod.fst) (List.mem_filter.mp hq).1
    · exact ih nd.2
end
theorem Ord'.to_nd {vs : List (Str × Int)} (h : Nd vs) (o : Ord') : Nd (o.to vs) := by
  cases o with
  | putO s n => exact h.put _ _
  | addO s n => exact h.put _ _
  | swapO s o n =>
    simp only [Ord'.to]
    split
    · exact h.put _ _
    · exact h
theorem filter_srt {ds : List D} (p : D → Bool) (h : Srt ds) : (srtD ds).filter p = srtD (ds.filter p) := by
  refine (srtD_eq ((srtD_up ds).filter p) ((srtD_perm ds).symm.filter p) fun a ha b hb => h.inj a (List.mem_filter.mp ha).1 b (List.mem_filter.mp hb).1).symm
theorem srt_perm {ds es : List D} (h : Srt ds) (p : ds.Perm es) : srtD ds = srtD es := srtD_eq (srtD_up es) (p.trans (srtD_perm es).symm) h.inj
def nzP (p : Str × Int) : Bool := !decide (p.2 = 0)
theorem vTold_eq (vs : List (Str × Int)) : vTold vs = srtD ((vs.filter nzP).map vRow) := by
  unfold vTold
  rw [filter_srt _ (srt_v vs), List.filter_map]
  rfl
theorem am_mem {vs : List (Str × Int)} (nd : Nd vs) {s : Str} {i : Int} (hi : i ≠ 0) : am vs s = i ↔ (s, i) ∈ vs.filter nzP := by
  rw [List.mem_filter]
  constructor
  · intro h
    unfold am at h
    cases z : val vs s with
    | none => rw [z] at h; exact absurd h.symm hi
    | some j =>
      rw [z] at h
      simp at h
      subst h
      exact ⟨val_mem z, by simp [nzP, hi]⟩
  · intro h
    unfold am
    rw [mem_val nd h.1]
    rfl
theorem vTold_ext {vs ws : List (Str × Int)} (h1 : Nd vs) (h2 : Nd ws) (e : ∀ s, am vs s = am ws s) : vTold vs = vTold ws := by
  rw [vTold_eq, vTold_eq]
  refine srt_perm (srt_v _) (List.Perm.map _ ((List.perm_ext_iff_of_nodup (h1.filter nzP).nodup (h2.filter nzP).nodup).mpr fun p => ?_))
  obtain ⟨s, i⟩ := p
  by_cases hi : i = 0
  · subst hi
    constructor <;> intro h <;> exact absurd (List.mem_filter.mp h).2 (by simp [nzP])
  · rw [← am_mem h1 hi, ← am_mem h2 hi, e]
theorem aTold_ext {as bs : List ((Int × Int) × Int)} (h1 : Nd as) (h2 : Nd bs) (e : ∀ k, val as k = val bs k) : aTold as = aTold bs := by
  unfold aTold
  rw [srt_perm (srt_a as) (List.Perm.map _ ((List.perm_ext_iff_of_nodup h1.nodup h2.nodup).mpr fun p => ?_))]
  obtain ⟨k, i⟩ := p
  exact ⟨fun h => val_mem (by rw [← e]; exact mem_val h1 h), fun h => val_mem (by rw [e]; exact mem_val h2 h)⟩
def vOf : D → Str × Int
  | .tup [.str s, .int i] => (s, i)
  | _ => (default, 0)
def aOf : D → (Int × Int) × Int
  | .tup [.int w, .int n, .int x] => ((w, n), x)
  | _ => ((0, 0), 0)
def unV (vs : List (Str × Int)) : List (Str × Int) := (vTold vs).map vOf
def unA (as : List ((Int × Int) × Int)) : List ((Int × Int) × Int) := (aTold as).map aOf
theorem unV_perm (vs : List (Str × Int)) : (unV vs).Perm (vs.filter nzP) := by
  unfold unV
  rw [vTold_eq]
  have := (srtD_perm ((vs.filter nzP).map vRow)).map vOf
  rw [List.map_map] at this
  have e : (vOf ∘ vRow) = id := by funext p; rfl
  rw [e, List.map_id] at this
  exact this
theorem unA_perm (as : List ((Int × Int) × Int)) : (unA as).Perm as := by
  unfold unA aTold
  rw [List.map_map]
  have := (srtD_perm (as.map aRow)).map (aOf ∘ flat3)
  rw [List.map_map] at this
  have e : ((aOf ∘ flat3) ∘ aRow) = id := by funext p; rfl
  rw [e, List.map_id] at this
  exact this
theorem unV_rows (vs : List (Str × Int)) : (unV vs).map vRow = vTold vs := by
  unfold unV
  rw [List.map_map]
  refine (List.map_congr_left fun d hd => ?_).trans (List.map_id _)
  obtain ⟨p, _, rfl, _⟩ := mem_vTold hd
  rfl
theorem unA_rows (as : List ((Int × Int) × Int)) : (unA as).map (fun p => D.tup [.int p.1.1, .int p.1.2, .int p.2]) = aTold as := by
  unfold unA
  rw [List.map_map]
  refine (List.map_congr_left fun d hd => ?_).trans (List.map_id _)
  obtain ⟨p, _, rfl⟩ := mem_aTold hd
  rfl
theorem nd_perm {κ : Type} [DecidableEq κ] {l m : List (κ × Int)} (p : l.Perm m) (h : Nd m) : Nd l := (p.map Prod.fst).nodup_iff.mpr h
theorem unV_nd {vs : List (Str × Int)} (h : Nd vs) : Nd (unV vs) := nd_perm (unV_perm vs) (h.filter _)
theorem unA_nd {as : List ((Int × Int) × Int)} (h : Nd as) : Nd (unA as) := nd_perm (unA_perm as) h
theorem unV_am {vs : List (Str × Int)} (h : Nd vs) (s : Str) : am (unV vs) s = am vs s := by
  by_cases z : am vs s = 0
  · rw [z]
    unfold am
    cases q : val (unV vs) s with
    | none => rfl
    | some i =>
      have := (unV_perm vs).mem_iff.mp (val_mem q)
      have h0 := (List.mem_filter.mp this).2
      have hi : i ≠ 0 := by simpa [nzP] using h0
      have := (am_mem h hi).mpr this
      exact absurd (this.symm.trans z) hi
  · have := (am_mem h z).mp rfl
    have := mem_val (unV_nd h) ((unV_perm vs).mem_iff.mpr this)
    show (val (unV vs) s).getD 0 = _
    rw [this]
    rfl
theorem unA_val {as : List ((Int × Int) × Int)} (h : Nd as) (k : Int × Int) : val (unA as) k = val as k := by
  cases q : val as k with
  | some i => exact mem_val (unA_nd h) ((unA_perm as).mem_iff.mpr (val_mem q))
  | none =>
    cases r : val (unA as) k with
    | none => rfl
    | some i => rw [mem_val h ((unA_perm as).mem_iff.mp (val_mem r))] at q; cases q
theorem unV_len (vs : List (Str × Int)) : (unV vs).length ≤ vs.length := by
  rw [(unV_perm vs).length_eq]
  exact List.length_filter_le _ _
theorem unA_len (as : List ((Int × Int) × Int)) : (unA as).length = as.length := (unA_perm as).length_eq
theorem put_take {κ : Type} [DecidableEq κ] {l : List (κ × Int)} (h : Nd l) {i : Nat} {p : κ × Int} (hi : l[i]? = some p) : put (l.take i) p.1 p.2 = l.take (i + 1) := by
  have hl := (List.getElem?_eq_some_iff.mp hi).1
  have e : l.take (i + 1) = l.take i ++ [p] := by
    rw [List.take_succ, hi]
    rfl
  rw [e]
  refine put_new ?_
  cases z : val (l.take i) p.1 with
  | none => rfl
  | some j =>
    exfalso
    have m := val_mem z
    have nd : Nd (l.take i ++ [p]) := by
      rw [← e]
      unfold Nd at h ⊢
      rw [List.map_take]
      exact h.sublist (List.take_sublist _ _)
    unfold Nd at nd
    rw [List.map_append, List.nodup_append] at nd
    have m' := List.mem_map_of_mem (f := Prod.fst) m
    exact nd.2.2 _ m' p.1 (by simp) rfl
structure Like (vs ws : List (Str × Int)) (as bs : List ((Int × Int) × Int)) : Prop where
  n1 : Nd vs
  n2 : Nd ws
  n3 : Nd as
  n4 : Nd bs
  v : ∀ s, am vs s = am ws s
  a : ∀ k, val as k = val bs k
theorem Like.told {vs ws : List (Str × Int)} {as bs : List ((Int × Int) × Int)} (h : Like vs ws as bs) : toldD vs as = toldD ws bs := by
  unfold toldD
  rw [vTold_ext h.n1 h.n2 h.v, aTold_ext h.n3 h.n4 h.a]
theorem Like.refl {vs : List (Str × Int)} {as : List ((Int × Int) × Int)} (h1 : Nd vs) (h2 : Nd as) : Like vs vs as as := ⟨h1, h1, h2, h2, fun _ => rfl, fun _ => rfl⟩
theorem Like.symm {vs ws : List (Str × Int)} {as bs : List ((Int × Int) × Int)} (h : Like vs ws as bs) : Like ws vs bs as := ⟨h.n2, h.n1, h.n4, h.n3, fun s => (h.v s).symm, fun k => (h.a k).symm⟩
theorem Like.un {vs : List (Str × Int)} {as : List ((Int × Int) × Int)} (h1 : Nd vs) (h2 : Nd as) : Like (unV vs) vs (unA as) as := ⟨unV_nd h1, h1, unA_nd h2, h2, unV_am h1, unA_val h2⟩
theorem am_to {vs ws : List (Str × Int)} (e : ∀ s, am vs s = am ws s) (o : Ord') : (∀ s, am (o.to vs) s = am (o.to ws) s) ∧ o.ans vs = o.ans ws := by
  have pa : ∀ (vs : List (Str × Int)) (s t : Str) (i : Int), am (put vs s i) t = if t = s then i else am vs t := fun vs s t i => by
    unfold am
    rw [val_put]
    split <;> rfl
  cases o with
  | putO s n => exact ⟨fun t => by simp only [Ord'.to, pa, e], e s⟩
  | addO s n => exact ⟨fun t => by simp only [Ord'.to, pa, e], by simp only [Ord'.ans, e]⟩
  | swapO s o n =>
    refine ⟨fun t => ?_, by simp only [Ord'.ans, e]⟩
    simp only [Ord'.to, e]
    split
    · simp only [pa, e]
    · exact e t
theorem Like.go {vs ws : List (Str × Int)} {as bs : List ((Int × Int) × Int)} (h : Like vs ws as bs) (k : Int × Int) (o : Ord') : Like (doV vs as k o) (doV ws bs k o) (doS vs as k o) (doS ws bs k o) ∧ doA vs as k o = doA ws bs k o := by
  have ek := h.a k
  have at' := am_to h.v o
  unfold doV doS doA
  rw [ek]
  cases z : val bs k with
  | some x => exact ⟨by simpa using h, rfl⟩
  | none =>
    simp only [Option.isSome_none, Bool.false_eq_true, if_false, Option.getD_none]
    refine ⟨⟨o.to_nd h.n1, o.to_nd h.n2, h.n3.put _ _, h.n4.put _ _, at'.1, fun k' => ?_⟩, at'.2⟩
    rw [val_put, val_put, at'.2, h.a]
theorem dput_b {M : Mem} {b : Nat} {as : List ((Int × Int) × Int)} {w n x : Int} (hb : M[b]? = some (.dt (enc kA as)) ∨ M[b]? = some (.dk []) ∧ as = []) (hl : as.length < 1000) : dPut M (.ref b) (.tup [.int w, .int n]) (.int x) = some (M.set b (.dt (enc kA (put as (w, n) x)))) := by
  rcases hb with hb | ⟨hb, rfl⟩
  · have hz : (enc kA as).length < sizeLine := by
      rw [enc_len]
      have : 1000 < sizeLine := by decide
      omega
    simp only [dPut, hb, toKeys_a, if_pos hz, ← enc_put kA_inj]
  · simp only [dPut, hb, toKeys_a, toKey]
    rfl
structure SInv (M0 : Mem) (d : D) (ps : List (Str × Int)) (i : Nat) (e : Sl) (M : Mem) : Prop where
  h : ∃ q2 q3 q4 q5 q6, e = [some d, some (.ref M0.length), q2, q3, q4, q5, q6] ∧ ShAt M M0.length (M0.length + 1) (M0.length + 2) (ps.take i) [] ∧ Gr M0 M ∧ M.length = M0.length + 3
structure SInv2 (M0 : Mem) (d : D) (vs : List (Str × Int)) (ps : List ((Int × Int) × Int)) (i : Nat) (e : Sl) (M : Mem) : Prop where
  h : ∃ q2 q3 q4 q5 q6, e = [some d, some (.ref M0.length), q2, q3, q4, q5, q6] ∧ ShAt M M0.length (M0.length + 1) (M0.length + 2) vs (ps.take i) ∧ Gr M0 M ∧ M.length = M0.length + 3
theorem Gr.setN {M M2 : Mem} {n : Nat} {o : MO} (g : Gr M M2) (h : M.length ≤ n) : Gr M (M2.set n o) := fun i x e => by
  have := lt_of e
  rw [List.getElem?_set_ne (by omega)]
  exact g i x e
theorem shelf_of_ok {M : Mem} {vs : List (Str × Int)} {as : List ((Int × Int) × Int)} (n1 : Nd vs) (n2 : Nd as) (l1 : vs.length < 64) (l2 : as.length < 64) :
    ∃ M', m_shelf_of [toldD vs as] M = .ok (.ref M.length) M' ∧ ShAt M' M.length (M.length + 1) (M.length + 2) (unV vs) (unA as) ∧ Gr M M' ∧ M'.length = M.length + 3 := by
  obtain ⟨M1, e1, H1, g1, z1⟩ := sh_init (M := M)
  have lv := unV_len vs
  have la := unA_len as
  have t0 : ∀ M, sIx (toldD vs as) (.int 0) M = .ok (.tup (vTold vs)) M := fun M => sIx_tup0
  have t1 : ∀ M, sIx (toldD vs as) (.int 1) M = .ok (.tup (aTold as)) M := fun M => told_ix1
  obtain ⟨e', M2, hg, hh⟩ := forGo_end (SInv M (toldD vs as) (unV vs)) (ds := vTold vs) (e := [some (toldD vs as), some (.ref M.length), none, none, none, none, none]) (M := M1) (src := none)
    (g := gT 2 (gCons' (gN 2) (gCons' (gN 3) gNil'))) (b := t_shelf_of_1) ⟨none, none, none, none, none, rfl, H1, g1, z1⟩ (fun _ _ _ _ _ => trivial) (by
      rintro i d e M' hd ⟨q2, q3, q4, q5, q6, rfl, H, g, z⟩
      rw [← unV_rows, List.getElem?_map] at hd
      obtain ⟨p, hp, rfl⟩ := Option.map_eq_some_iff.mp hd
      refine ⟨_, rfl, ?_⟩
      have ra : M.length ≠ M.length + 1 := by omega
      have dp := dput_s (s := p.1) (i := p.2) H.ha H.lv
      rw [put_take (unV_nd n1) hp] at dp
      simp [t_shelf_of_1, H.fa, dp, vRow]
      refine ⟨_, _, _, _, _, rfl, ⟨set_ne H.hr (by omega), set_get H.ha, ?_, by rw [List.length_take]; omega, by simp, by omega⟩, g.setN (by omega), by simp [z]⟩
      rcases H.hb with q | q
      · exact .inl (set_ne q (by omega))
      · exact .inr ⟨set_ne q.1 (by omega), rfl⟩)
  obtain ⟨q2, q3, q4, q5, q6, rfl, H2, g2, z2⟩ := hh
  have ev : (unV vs).take (vTold vs).length = unV vs := by
    rw [← unV_rows, List.length_map, List.take_length]
  rw [ev] at H2
  obtain ⟨e'', M3, hg2, hh2⟩ := forGo_end (SInv2 M (toldD vs as) (unV vs) (unA as)) (ds := aTold as) (e := [some (toldD vs as), some (.ref M.length), q2, q3, q4, q5, q6]) (M := M2) (src := none)
    (g := gT 3 (gCons' (gN 4) (gCons' (gN 5) (gCons' (gN 6) gNil')))) (b := t_shelf_of_3) ⟨q2, q3, q4, q5, q6, rfl, H2, g2, z2⟩ (fun _ _ _ _ _ => trivial) (by
      rintro i d e M' hd ⟨q2, q3, q4, q5, q6, rfl, H, g, z⟩
      rw [← unA_rows, List.getElem?_map] at hd
      obtain ⟨p, hp, rfl⟩ := Option.map_eq_some_iff.mp hd
      refine ⟨_, rfl, ?_⟩
      have dp := dput_b (w := p.1.1) (n := p.1.2) (x := p.2) H.hb (by rw [List.length_take]; omega)
      rw [show ((p.1.1, p.1.2) : Int × Int) = p.1 from rfl, put_take (unA_nd n2) hp] at dp
      have hb' : ∃ o, M'[M.length + 2]? = some o := by
        rcases H.hb with q | q
        · exact ⟨_, q⟩
        · exact ⟨_, q.1⟩
      obtain ⟨o, ho⟩ := hb'
      simp [t_shelf_of_3, H.fb, dp]
      exact ⟨_, _, _, _, _, rfl, ⟨set_ne H.hr (by omega), set_ne H.ha (by omega), .inl (set_get ho), H.lv, by rw [List.length_take]; omega, by omega⟩, g.setN (by omega), by simp [z]⟩)
  obtain ⟨q2', q3', q4', q5', q6', rfl, H3, g3, z3⟩ := hh2
  have ea : (unA as).take (aTold as).length = unA as := by
    rw [← unA_rows, List.length_map, List.take_length]
  rw [ea] at H3
  refine ⟨M3, ?_, H3, g3, z3⟩
  simp only [m_shelf_of, b_shelf_of, f_shelf_of_2, f_shelf_of_4]
  simp [e1, t0, t1, hg, hg2]
structure Ask where
  k : Int × Int
  o : Ord'
def Ask.d (x : Ask) : D := .tup [.int x.k.1, .int x.k.2, x.o.d]
abbrev Sh := List (Str × Int) × List ((Int × Int) × Int)
def stp (s : Sh) (x : Ask) : Sh := (doV s.1 s.2 x.k x.o, doS s.1 s.2 x.k x.o)
def runS (s : Sh) (l : List Ask) : Sh := l.foldl stp s
def ansS : Sh → List Ask → List Int
  | _, [] => []
  | s, x :: l => doA s.1 s.2 x.k x.o :: ansS (stp s x) l
def NdS (s : Sh) : Prop := Nd s.1 ∧ Nd s.2
def LikeS (s t : Sh) : Prop := Like s.1 t.1 s.2 t.2
theorem stp_nd {s : Sh} (h : NdS s) (x : Ask) : NdS (stp s x) := by
  have := ((Like.refl h.1 h.2).go x.k x.o).1
  exact ⟨this.n1, this.n3⟩
theorem run_nd {s : Sh} (h : NdS s) (l : List Ask) : NdS (runS s l) := by
  induction l generalizing s with
  | nil => exact h
  | cons x l ih => exact ih (stp_nd h x)
theorem like_run {s t : Sh} (h : LikeS s t) (l : List Ask) : LikeS (runS s l) (runS t l) ∧ ansS s l = ansS t l := by
  induction l generalizing s t with
  | nil => exact ⟨h, rfl⟩
  | cons x l ih =>
    have g := h.go x.k x.o
    have := ih (s := stp s x) (t := stp t x) g.1
    exact ⟨this.1, by rw [ansS, ansS, g.2, this.2]⟩
theorem ans_app (s : Sh) (l m : List Ask) : ansS s (l ++ m) = ansS s l ++ ansS (runS s l) m := by
  induction l generalizing s with
  | nil => rfl
  | cons x l ih => rw [List.cons_append, ansS, ansS, ih]; rfl
theorem run_app (s : Sh) (l m : List Ask) : runS s (l ++ m) = runS (runS s l) m := by unfold runS; rw [List.foldl_append]
theorem ans_len (s : Sh) (l : List Ask) : (ansS s l).length = l.length := by
  induction l generalizing s with
  | nil => rfl
  | cons x l ih => simp [ansS, ih]
theorem stp_len (s : Sh) (x : Ask) : (stp s x).1.length ≤ s.1.length + 1 ∧ (stp s x).2.length ≤ s.2.length + 1 := by
  unfold stp doV doS
  have a1 := to_len (vs := s.1) (o := x.o)
  have a2 := put_len (l := s.2) (k := x.k) (i := x.o.ans s.1)
  constructor
  · dsimp only; split <;> omega
  · dsimp only; split <;> omega
theorem run_len (s : Sh) (l : List Ask) : (runS s l).1.length ≤ s.1.length + l.length ∧ (runS s l).2.length ≤ s.2.length + l.length := by
  induction l generalizing s with
  | nil => exact ⟨Nat.le_refl _, Nat.le_refl _⟩
  | cons x l ih =>
    have h1 := stp_len s x
    have h2 := ih (stp s x)
    simp only [List.length_cons]
    constructor
    · exact Nat.le_trans h2.1 (by omega)
    · exact Nat.le_trans h2.2 (by omega)
theorem stp_val {s : Sh} (x : Ask) : val (stp s x).2 x.k = some (doA s.1 s.2 x.k x.o) ∧ ∀ k i, val s.2 k = some i → val (stp s x).2 k = some i := by
  unfold stp doS doA
  cases z : val s.2 x.k with
  | some j => exact ⟨by simp [z], fun k i h => by simpa [z] using h⟩
  | none =>
    refine ⟨by simp [val_put], fun k i h => ?_⟩
    simp only [Option.isSome_none, Bool.false_eq_true, if_false]
    rw [val_put, if_neg (fun e => by rw [e, z] at h; cases h)]
    exact h
theorem run_val {s : Sh} (l : List Ask) : ∀ k i, val s.2 k = some i → val (runS s l).2 k = some i := by
  induction l generalizing s with
  | nil => exact fun _ _ h => h
  | cons x l ih => exact fun k i h => ih k i ((stp_val x).2 k i h)
theorem ans_val (s : Sh) (l : List Ask) : ansS s l = l.map fun x => (val (runS s l).2 x.k).getD 0 := by
  induction l generalizing s with
  | nil => rfl
  | cons x l ih =>
    rw [ansS, List.map_cons, ih]
    have := run_val l _ _ (stp_val (s := s) x).1
    rw [show runS s (x :: l) = runS (stp s x) l from rfl, this]
    rfl
theorem run_has (s : Sh) (l : List Ask) : ∀ x ∈ l, (val (runS s l).2 x.k).isSome = true := by
  induction l generalizing s with
  | nil => intro x h; cases h
  | cons y l ih =>
    intro x h
    rcases List.mem_cons.mp h with rfl | h
    · rw [show runS s (x :: l) = runS (stp s x) l from rfl, run_val l _ _ (stp_val (s := s) x).1]; rfl
    · exact ih _ x h
theorem again {s : Sh} {l : List Ask} (h : ∀ x ∈ l, (val s.2 x.k).isSome = true) : runS s l = s ∧ ansS s l = l.map fun x => (val s.2 x.k).getD 0 := by
  have hr : runS s l = s := by
    induction l with
    | nil => rfl
    | cons x l ih =>
      have e : stp s x = s := by
        unfold stp doV doS
        rw [if_pos (h x List.mem_cons_self), if_pos (h x List.mem_cons_self)]
      show runS (stp s x) l = s
      rw [e]
      exact ih fun y hy => h y (List.mem_cons_of_mem _ hy)
  exact ⟨hr, by rw [ans_val, hr]⟩
def fsts (seen : List (Int × Int)) : List Ask → List Ask
  | [] => []
  | x :: l => if x.k ∈ seen then fsts seen l else x :: fsts (seen ++ [x.k]) l
theorem val_some {l : List ((Int × Int) × Int)} {k : Int × Int} : (val l k).isSome = true ↔ k ∈ l.map Prod.fst := by
  constructor
  · intro h
    obtain ⟨i, hi⟩ := Option.isSome_iff_exists.mp h
    have := List.mem_map_of_mem (f := Prod.fst) (val_mem hi)
    exact this
  · intro h
    cases z : val l k with
    | none => exact absurd h (val_none z)
    | some _ => rfl
theorem run_fsts (s : Sh) (l : List Ask) : runS s l = runS s (fsts (s.2.map Prod.fst) l) := by
  induction l generalizing s with
  | nil => rfl
  | cons x l ih =>
    unfold fsts
    show runS (stp s x) l = _
    by_cases z : (val s.2 x.k).isSome = true
    · rw [if_pos (val_some.mp z)]
      have e : stp s x = s := by
        unfold stp doV doS
        rw [if_pos z, if_pos z]
      rw [e]
      exact ih s
    · rw [if_neg (fun h => z (val_some.mpr h))]
      show _ = runS (stp s x) _
      have e : (stp s x).2.map Prod.fst = s.2.map Prod.fst ++ [x.k] := by
        unfold stp doS
        simp only [z]
        rw [if_neg (by simp), put_new (Option.not_isSome_iff_eq_none.mp z)]
        simp
      rw [ih (stp s x), e]
theorem fsts_new : ∀ (seen : List (Int × Int)) (l : List Ask), (∀ x ∈ fsts seen l, x.k ∉ seen) ∧ ((fsts seen l).map Ask.k).Nodup ∧ ∀ x ∈ fsts seen l, x ∈ l
  | seen, [] => ⟨fun x h => (by cases h), List.nodup_nil, fun x h => (by cases h)⟩
  | seen, x :: l => by
    unfold fsts
    split
    · have := fsts_new seen l
      exact ⟨this.1, this.2.1, fun y hy => List.mem_cons_of_mem _ (this.2.2 y hy)⟩
    · rename_i hx
      have ih := fsts_new (seen ++ [x.k]) l
      refine ⟨fun y hy => ?_, ?_, fun y hy => ?_⟩
      · rcases List.mem_cons.mp hy with rfl | hy
        · exact hx
        · exact fun h => ih.1 y hy (List.mem_append_left _ h)
      · rw [List.map_cons, List.nodup_cons]
        refine ⟨fun h => ?_, ih.2.1⟩
        obtain ⟨y, hy, e⟩ := List.mem_map.mp h
        exact ih.1 y hy (by rw [e]; exact List.mem_append_right _ (by simp))
      · rcases List.mem_cons.mp hy with rfl | hy
        · exact List.mem_cons_self
        · exact List.mem_cons_of_mem _ (ih.2.2 y hy)
def nmA (x : Ask) : Str := x.o.nm
def gO (o : Ord') (v : Int) : Int := match o with
  | .putO _ n => n
  | .addO _ n => v + n
  | .swapO _ o n => if v = o then n else v
def fO (o : Ord') (v : Int) : Int := match o with
  | .putO _ _ => v
  | .addO _ n => v + n
  | .swapO _ o _ => if v = o then 1 else 0
theorem am_put {vs : List (Str × Int)} {s t : Str} {i : Int} : am (put vs s i) t = if t = s then i else am vs t := by
  unfold am
  rw [val_put]
  split <;> rfl
theorem am_gO (vs : List (Str × Int)) (o : Ord') (t : Str) : am (o.to vs) t = if t = o.nm then gO o (am vs t) else am vs t := by
  cases o with
  | putO s n => by_cases e : t = s <;> simp [Ord'.to, Ord'.nm, gO, am_put, e]
  | addO s n => by_cases e : t = s <;> simp [Ord'.to, Ord'.nm, gO, am_put, e]
  | swapO s o n => by_cases z : am vs s = o <;> by_cases e : t = s <;> simp [Ord'.to, Ord'.nm, gO, am_put, e, z]
theorem ans_fO (vs : List (Str × Int)) (o : Ord') : o.ans vs = fO o (am vs o.nm) := by cases o <;> rfl
def pV (vs : List (Str × Int)) (l : List Ask) : List (Str × Int) := l.foldl (fun vs x => x.o.to vs) vs
def pA : List (Str × Int) → List Ask → List (Ask × Int)
  | _, [] => []
  | vs, x :: l => (x, x.o.ans vs) :: pA (x.o.to vs) l
def nV (v : Int) (l : List Ask) : Int := l.foldl (fun v x => gO x.o v) v
def nA : Int → List Ask → List (Ask × Int)
  | _, [] => []
  | v, x :: l => (x, fO x.o v) :: nA (gO x.o v) l
def fN (s : Str) (l : List Ask) : List Ask := l.filter fun x => decide (nmA x = s)
theorem pV_name (vs : List (Str × Int)) (l : List Ask) (s : Str) : am (pV vs l) s = nV (am vs s) (fN s l) := by
  induction l generalizing vs with
  | nil => rfl
  | cons x l ih =>
    show am (pV (x.o.to vs) l) s = _
    rw [ih, am_gO]
    unfold fN nmA
    rw [List.filter_cons]
    by_cases e : s = x.o.nm
    · rw [if_pos e, if_pos (by simp [e])]; rfl
    · rw [if_neg e, if_neg (by simpa using fun z => e (Eq.symm z))]
theorem pA_name (vs : List (Str × Int)) (l : List Ask) (s : Str) : (pA vs l).filter (fun p => decide (nmA p.1 = s)) = nA (am vs s) (fN s l) := by
  induction l generalizing vs with
  | nil => rfl
  | cons x l ih =>
    unfold pA
    rw [List.filter_cons, ih, am_gO]
    unfold fN nmA
    rw [List.filter_cons]
    by_cases e : s = x.o.nm
    · rw [if_pos (by simp [e]), if_pos e, if_pos (by simp [e]), ans_fO, e]; rfl
    · rw [if_neg (by simpa using fun z => e (Eq.symm z)), if_neg e, if_neg (by simpa using fun z => e (Eq.symm z))]
theorem run_new {s : Sh} {l : List Ask} (h : ∀ x ∈ l, x.k ∉ s.2.map Prod.fst) (nd : (l.map Ask.k).Nodup) : runS s l = (pV s.1 l, s.2 ++ (pA s.1 l).map fun p => (p.1.k, p.2)) := by
  induction l generalizing s with
  | nil => simp [runS, pV, pA]
  | cons x l ih =>
    rw [List.map_cons, List.nodup_cons] at nd
    have z : val s.2 x.k = none := by
      cases q : val s.2 x.k with
      | none => rfl
      | some i => exact absurd (val_some.mp (by rw [q]; rfl)) (h x List.mem_cons_self)
    have e : stp s x = (x.o.to s.1, s.2 ++ [(x.k, x.o.ans s.1)]) := by
      unfold stp doV doS
      rw [z]
      simp [put_new z]
    show runS (stp s x) l = _
    rw [e, ih (s := (x.o.to s.1, s.2 ++ [(x.k, x.o.ans s.1)])) (fun y hy => ?_) nd.2]
    · simp [pV, pA]
    · rw [List.map_append, List.mem_append]
      rintro (q | q)
      · exact h y (List.mem_cons_of_mem _ hy) q
      · simp at q
        exact nd.1 (by rw [← q]; exact List.mem_map_of_mem hy)
theorem run_names {l m : List Ask} (h1 : (l.map Ask.k).Nodup) (h2 : (m.map Ask.k).Nodup) (e : ∀ s, fN s l = fN s m) : LikeS (runS ([], []) l) (runS ([], []) m) := by
  have n1 := run_nd (s := ([], [])) ⟨List.nodup_nil, List.nodup_nil⟩ l
  have n2 := run_nd (s := ([], [])) ⟨List.nodup_nil, List.nodup_nil⟩ m
  have r1 := run_new (s := ([], [])) (l := l) (by simp) h1
  have r2 := run_new (s := ([], [])) (l := m) (by simp) h2
  rw [r1] at n1 ⊢
  rw [r2] at n2 ⊢
  have mem : ∀ {l m : List Ask}, (∀ s, fN s l = fN s m) → ∀ p, p ∈ pA [] l → p ∈ pA [] m := fun {l m} e p hp => by
    have : p ∈ (pA [] l).filter (fun q => decide (nmA q.1 = nmA p.1)) := List.mem_filter.mpr ⟨hp, by simp⟩
    rw [pA_name, e, ← pA_name] at this
    exact (List.mem_filter.mp this).1
  refine ⟨n1.1, n2.1, n1.2, n2.2, fun s => ?_, fun k => ?_⟩
  · show am (pV [] l) s = am (pV [] m) s
    rw [pV_name, pV_name, e]
  · have go : ∀ {l m : List Ask}, Nd (([] : List ((Int × Int) × Int)) ++ (pA [] m).map fun p => (p.1.k, p.2)) → (∀ s, fN s l = fN s m) → ∀ i, val (([] : List ((Int × Int) × Int)) ++ (pA [] l).map fun p => (p.1.k, p.2)) k = some i → val (([] : List ((Int × Int) × Int)) ++ (pA [] m).map fun p => (p.1.k, p.2)) k = some i := fun {l m} nd e i hi => by
      have := val_mem hi
      rw [List.nil_append] at this
      obtain ⟨p, hp, ep⟩ := List.mem_map.mp this
      refine mem_val nd ?_
      rw [List.nil_append, ← ep]
      exact List.mem_map_of_mem (f := fun (p : Ask × Int) => (p.1.k, p.2)) (mem e p hp)
    show val _ k = val _ k
    cases z : val (([] : List ((Int × Int) × Int)) ++ (pA [] l).map fun p => (p.1.k, p.2)) k with
    | some i => exact (go n2.2 e i z).symm
    | none =>
      cases z2 : val (([] : List ((Int × Int) × Int)) ++ (pA [] m).map fun p => (p.1.k, p.2)) k with
      | none => rfl
      | some i => rw [go n1.2 (fun s => (e s).symm) i z2] at z; cases z
abbrev nm4 : List Str := ["a", "aa", "ba", "zzzzzzzz"]
theorem cut_150 {ns : List Int} (h : ns.length ≤ 63) : (cut ns (some 1) (some 50)).length ≤ 49 := by
  unfold cut
  rw [List.length_take, List.length_drop]
  have a1 : HT.sIx ns.length 0 (some 1) = min 1 ns.length := by simp [HT.sIx]
  have a2 : HT.sIx ns.length ns.length (some 50) = min 50 ns.length := by simp [HT.sIx]
  rw [a1, a2]
  omega
structure AInv (M0 : Mem) (ns cs : List Int) (i : Nat) (e : Sl) (M : Mem) : Prop where
  h : ∃ (asks : List Ask) (q2 q3 q4 q5 q6 : Option D), e = [some (.cl (ns.map D.int)), some (.ref M0.length), q2, q3, q4, q5, q6] ∧ M[M0.length]? = some (.lst (asks.map Ask.d)) ∧ M[M0.length + 1]? = some (.lst (cs.map D.int)) ∧ Gr M0 M ∧ asks.length = i ∧ ∀ x ∈ asks, nmA x ∈ nm4
theorem aturn {M0 : Mem} {ns cs : List Int} {c : Int} {i : Nat} {e : Sl} {M : Mem} (hi : i < 60) (h : AInv M0 ns cs i e M) : ∃ e1, gN 2 (.int c) e = some e1 ∧ (t_law_asks_2 e1 M).to (AInv M0 ns cs (i + 1)) (fun _ _ => False) := by
  obtain ⟨asks, q2, q3, q4, q5, q6, rfl, hl, hc, g0, la, hn⟩ := h
  refine ⟨_, rfl, ?_⟩
  have md : ∀ (z j : Int) (M : Mem), 0 < j → sMod (.int z) (.int j) M = .ok (.int (z % j)) M := fun z j M h => sMod_int h
  have dv : ∀ (z j : Int) (M : Mem), 0 < j → j < 1073741824 → sDiv (.int z) (.int j) M = .ok (.int (z / j)) M := fun z j M h h' => sDiv_int h h'
  obtain ⟨T, hT⟩ : ∃ T : Int, T = 10 ^ 40 := ⟨_, rfl⟩
  have hT0 : 0 < T := by rw [hT]; decide
  have pw : ∀ M : Mem, sPow (.int 10) (.int 40) M = .ok (.int T) M := fun M => by rw [hT]; exact sPow_int (by decide)
  clear hT
  obtain ⟨xs, x, M1, hxs, e1, hx1, g1⟩ := stream_ok' (M := M) c 6 (nn := 6) rfl (by decide)
  obtain ⟨x0, p0, _, _⟩ := str_get hxs (i := 0) (by decide)
  obtain ⟨x1, p1, _, _⟩ := str_get hxs (i := 1) (by decide)
  obtain ⟨x2, p2, _, _⟩ := str_get hxs (i := 2) (by decide)
  obtain ⟨x3, p3, _, _⟩ := str_get hxs (i := 3) (by decide)
  obtain ⟨x4, p4, _, _⟩ := str_get hxs (i := 4) (by decide)
  obtain ⟨x5, p5, _, _⟩ := str_get hxs (i := 5) (by decide)
  have i0 : ∀ M2, Gr M1 M2 → sIx (.ref x) (.int 0) M2 = .ok (.int x0) M2 := fun M2 g => ix_ints (g _ _ hx1) rfl p0
  have i1 : ∀ M2, Gr M1 M2 → sIx (.ref x) (.int 1) M2 = .ok (.int x1) M2 := fun M2 g => ix_ints (g _ _ hx1) rfl p1
  have i2 : ∀ M2, Gr M1 M2 → sIx (.ref x) (.int 2) M2 = .ok (.int x2) M2 := fun M2 g => ix_ints (g _ _ hx1) rfl p2
  have i3 : ∀ M2, Gr M1 M2 → sIx (.ref x) (.int 3) M2 = .ok (.int x3) M2 := fun M2 g => ix_ints (g _ _ hx1) rfl p3
  have i4 : ∀ M2, Gr M1 M2 → sIx (.ref x) (.int 4) M2 = .ok (.int x4) M2 := fun M2 g => ix_ints (g _ _ hx1) rfl p4
  have i5 : ∀ M2, Gr M1 M2 → sIx (.ref x) (.int 5) M2 = .ok (.int x5) M2 := fun M2 g => ix_ints (g _ _ hx1) rfl p5
  obtain ⟨M2, hM2⟩ : ∃ M2, M2 = M1 ++ [.lst [.str "a", .str "aa", .str "ba", .str "zzzzzzzz"]] := ⟨_, rfl⟩
  have g2 : Gr M1 M2 := by rw [hM2]; exact Gr.app
  have k2 : ∃ s ∈ nm4, sIx (.ref M1.length) (.int (x0 % 4)) M2 = .ok (.str s) M2 := by
    obtain ⟨d, hd, e⟩ := pickN (M := M2) (n := M1.length) (z := x0) (j := 4) (by rw [hM2]; exact app_last) rfl (by decide)
    simp at hd
    rcases hd with rfl | rfl | rfl | rfl <;> exact ⟨_, by simp [nm4], e⟩
  obtain ⟨s, hs, e2⟩ := k2
  obtain ⟨M3, hM3⟩ : ∃ M3, M3 = M2 ++ [.lst [.int (x1 % 4), .int (c % T), .int (-(x1 % 4))]] := ⟨_, rfl⟩
  have g3 : Gr M2 M3 := by rw [hM3]; exact Gr.app
  have k3 : ∃ n, sIx (.ref M2.length) (.int (x2 % 3)) M3 = .ok (.int n) M3 := by
    obtain ⟨d, hd, e⟩ := pickN (M := M3) (n := M2.length) (z := x2) (j := 3) (by rw [hM3]; exact app_last) rfl (by decide)
    simp at hd
    rcases hd with rfl | rfl | rfl <;> exact ⟨_, e⟩
  obtain ⟨n, e3⟩ := k3
  have g13 := g2.trans g3
  obtain ⟨M4, hM4⟩ : ∃ M4, M4 = M3 ++ [.lst [.str "put", .str "add"]] := ⟨_, rfl⟩
  have g4 : Gr M3 M4 := by rw [hM4]; exact Gr.app
  have h4 : M4[M3.length]? = some (.lst [.str "put", .str "add"]) := by rw [hM4]; exact app_last
  have g14 := g13.trans g4
  have pk : ∃ dd, sIx (.ref M3.length) (.int (x3 % 2)) M4 = .ok (.str dd) M4 ∧ ∃ o : Ord', o.d = .tup [.str dd, .str s, .int n] ∧ o.nm = s := by
    have : x3 % 2 = 0 ∨ x3 % 2 = 1 := by omega
    rcases this with e | e
    · exact ⟨_, by rw [e]; exact sIx_ref h4 (by decide) rfl, .putO s n, rfl, rfl⟩
    · exact ⟨_, by rw [e]; exact sIx_ref h4 (by decide) rfl, .addO s n, rfl, rfl⟩
  obtain ⟨dd, e4, o1, ho1, hs1⟩ := pk
  have gM := g1.trans g14
  have hl4 := gM _ _ hl
  have ty := tyD_list hl4
  have key : ∀ (o : Ord'), o.nm = s → ∀ q2 q3 q4 q5 q6, AInv M0 ns cs (i + 1) [some (.cl (ns.map D.int)), some (.ref M0.length), q2, q3, q4, q5, q6] (M4.set M0.length (.lst (asks.map Ask.d ++ [Ask.d ⟨(x4 % 5 - 1, x5 % 7), o⟩]))) := fun o ho q2 q3 q4 q5 q6 =>
    ⟨asks ++ [⟨(x4 % 5 - 1, x5 % 7), o⟩], _, _, _, _, _, rfl, by rw [List.map_append]; exact set_get hl4, set_ne (gM _ _ hc) (by omega), (g0.trans gM).setN (Nat.le_refl _), by simp [la], fun y hy => by
      rcases List.mem_append.mp hy with q | q
      · exact hn y q
      · rw [List.mem_singleton.mp q]
        show o.nm ∈ nm4
        rw [ho]; exact hs⟩
  have ap : ∀ d : D, sAppend (.ref M0.length) [d] M4 = .ok .non (M4.set M0.length (.lst (asks.map Ask.d ++ [d]))) := fun d => sAppend_ref hl4 (by simp [la]; omega)
  by_cases z : x3 % 3 = 0
  · simp [t_law_asks_2, e1, i0 M1 Gr.refl, i0 M2 g2, md, ← hM2, e2, i1 M2 g2, pw, hT0, ← hM3, i2 M3 g13, e3, i3 M3 g13, ← hM4, i3 M4 g14, e4, i_law_asks_1, z, i1 M4 g14, dv, ty, i4 M4 g14, i5 M4 g14, ap]
    exact key (.swapO s (x1 / 4 % 4) n) rfl _ _ _ _ _
  · simp [t_law_asks_2, e1, i0 M1 Gr.refl, i0 M2 g2, md, ← hM2, e2, i1 M2 g2, pw, hT0, ← hM3, i2 M3 g13, e3, i3 M3 g13, ← hM4, i3 M4 g14, e4, i_law_asks_1, z, ty, i4 M4 g14, i5 M4 g14, ap]
    have := key o1 hs1
    unfold Ask.d at this
    rw [ho1] at this
    exact this _ _ _ _ _
theorem asks_ok {M : Mem} {ns : List Int} (hns : ns.length ≤ 63) : ∃ (asks : List Ask) (M' : Mem), m_law_asks [.cl (ns.map D.int)] M = .ok (.ref M.length) M' ∧ M'[M.length]? = some (.lst (asks.map Ask.d)) ∧ Gr M M' ∧ asks.length ≤ 49 ∧ ∀ x ∈ asks, nmA x ∈ nm4 := by
  have hcut : cut (ns.map D.int) (some 1) (some 50) = (cut ns (some 1) (some 50)).map D.int := cut_map _ _ _ _
  obtain ⟨cs, hcs⟩ : ∃ cs, cs = cut ns (some 1) (some 50) := ⟨_, rfl⟩
  have lc : cs.length ≤ 49 := by rw [hcs]; exact cut_150 hns
  rw [← hcs] at hcut
  obtain ⟨M2, hM2⟩ : ∃ M2, M2 = M ++ [.lst [], .lst (cs.map D.int)] := ⟨_, rfl⟩
  have h1 : M2[M.length]? = some (.lst []) := by rw [hM2]; simp
  have h2 : M2[M.length + 1]? = some (.lst (cs.map D.int)) := by rw [hM2]; simp
  obtain ⟨e', M', hg, hh⟩ := forGo_end (AInv M ns cs) (ds := cs.map D.int) (e := [some (.cl (ns.map D.int)), some (.ref M.length), none, none, none, none, none]) (M := M2) (src := some (M.length + 1, cs.map D.int))
    (g := gN 2) (b := t_law_asks_2) ⟨[], none, none, none, none, none, rfl, h1, h2, by rw [hM2]; exact Gr.app, rfl, by simp⟩ (fun _ _ _ _ h => by
      obtain ⟨_, _, _, _, _, _, _, _, k, _⟩ := h
      exact lstOf_lst k) (by
      intro i d e M' hd h
      rw [List.getElem?_map] at hd
      obtain ⟨c, hc, rfl⟩ := Option.map_eq_some_iff.mp hd
      have := (List.getElem?_eq_some_iff.mp hc).1
      exact aturn (by omega) h)
  obtain ⟨asks, q2, q3, q4, q5, q6, rfl, hl, -, g, la, hn⟩ := hh
  rw [List.length_map] at la
  refine ⟨asks, M', ?_, hl, g, by omega, hn⟩
  simp only [m_law_asks, b_law_asks, f_law_asks_3]
  have hM2' : M ++ [MO.lst []] ++ [MO.lst (cs.map D.int)] = M2 := by rw [hM2]; simp
  have hM2'' : M ++ [MO.lst [], MO.lst (cs.map D.int)] = M2 := hM2.symm
  have it := itOf_ref h2
  simp [hcut, hM2'', it, hg]
theorem done_go {r a b n : Nat} {all : List D} : ∀ (l : List Ask) {ys : List D} {s : Sh} {M : Mem}, ShAt M r a b s.1 s.2 → M[n]? = some (.lst all) → s.1.length + l.length < 1000 → s.2.length + l.length < 1000 →
    ∃ M', cpGoT (some (n, all)) (gT 3 (gCons' (gN 0) (gCons' (gN 1) (gCons' (gN 2) gNil')))) 3 mAll (mMeth 0 "do" m_Shelf_do 4 [] (mVar 3) (mCons (mVar 0) (mCons (mVar 1) (mCons (mVar 2) mNil)))) [some (.ref r)] (l.map Ask.d) ys M = .ok (.ref M'.length) (M' ++ [.lst (ys ++ (ansS s l).map D.int)]) ∧
      ShAt M' r a b (runS s l).1 (runS s l).2 ∧ Ch (fun i => i = a ∨ i = b) M M' ∧ M'.length = M.length
  | [], ys, s, M, H, hn, _, _ => ⟨M, by simp only [List.map_nil]; rw [cpGoT, if_pos (show SrcOk (some (n, all)) M from lstOf_lst hn)]; simp [ansS], H, Ch.refl, rfl⟩
  | x :: l, ys, s, M, H, hn, h1, h2 => by
    simp only [List.length_cons] at h1 h2
    obtain ⟨M1, e1, H1, c1, n1⟩ := do_ok (o := x.o) (w := x.k.1) (n := x.k.2) H (by omega) (by omega)
    have sl := stp_len s x
    have na : ¬ (n = a ∨ n = b) := by
      rintro (z | z)
      · subst z; have := H.ha; rw [hn] at this; cases this
      · subst z; rcases H.hb with q | q
        · rw [hn] at q; cases q
        · have := q.1; rw [hn] at this; cases this
    obtain ⟨M2, e2, H2, c2, n2⟩ := done_go l (ys := ys ++ [.int (doA s.1 s.2 x.k x.o)]) (s := stp s x) (M := M1) H1 (c1.2 _ _ na hn) (by omega) (by omega)
    refine ⟨M2, ?_, H2, c1.trans c2, by omega⟩
    rw [List.map_cons, cpGoT, if_pos (show SrcOk (some (n, all)) M from lstOf_lst hn)]
    have eg : gT 3 (gCons' (gN 0) (gCons' (gN 1) (gCons' (gN 2) gNil'))) x.d (nosE 3 ++ [some (.ref r)]) = some [some (.int x.k.1), some (.int x.k.2), some x.o.d, some (.ref r)] := rfl
    rw [eg]
    simp [H.me (m := "do") rfl, e1]
    simpa [ansS] using e2
theorem done_ok {M : Mem} {r a b n : Nat} {l : List Ask} {s : Sh} (H : ShAt M r a b s.1 s.2) (hn : M[n]? = some (.lst (l.map Ask.d))) (h1 : s.1.length + l.length < 1000) (h2 : s.2.length + l.length < 1000) :
    ∃ k M', m_law_done [.ref r, .ref n] M = .ok (.ref k) M' ∧ M'[k]? = some (.lst ((ansS s l).map D.int)) ∧ ShAt M' r a b (runS s l).1 (runS s l).2 ∧ Ch (fun i => i = a ∨ i = b) M M' ∧ LK M M' := by
  obtain ⟨M1, e1, H1, c1, n1⟩ := done_go l (ys := []) H hn h1 h2
  refine ⟨_, _, ?_, app_last, H1.gr Gr.app, c1.trans Ch.app, (c1.lk (fun j hj => ?_)).trans Gr.app.lk⟩
  · simp only [m_law_done, b_law_done]
    rw [List.nil_append] at e1
    simp [itOf_ref hn, capE, e1]
  · rcases hj with rfl | rfl
    · exact .inl ⟨_, H.ha⟩
    · rcases H.hb with q | q
      · exact .inr ⟨_, q⟩
      · exact .inl ⟨_, q.1⟩
def sn (ks : List (Int × Int)) : List (List Key × D) := ks.map fun k => (kA k, .bl true)
theorem sn_val {ks : List (Int × Int)} {k : Int × Int} : valD (sn ks) (kA k) = if k ∈ ks then some (.bl true) else none := by
  induction ks with
  | nil => rfl
  | cons x l ih =>
    have e : sn (x :: l) = (kA x, .bl true) :: sn l := rfl
    rw [e]
    by_cases h : x = k
    · subst h; simp [valD]
    · have ne : kA x ≠ kA k := fun z => h (kA_inj _ _ z)
      have e2 : valD ((kA x, .bl true) :: sn l) (kA k) = valD (sn l) (kA k) := by simp [valD, ne]
      rw [e2, ih]
      simp [Ne.symm h, fun z : k = x => h z.symm]
theorem sn_put {ks : List (Int × Int)} {k : Int × Int} (h : k ∉ ks) : putG (sn ks) (kA k) (.bl true) = sn (ks ++ [k]) := by
  unfold putG
  have : ((sn ks).any fun kv => decide (kv.1 = kA k)) = false := by
    unfold sn
    rw [List.any_map, List.any_eq_false]
    intro x hx
    simp
    exact fun z => h (by rw [← kA_inj _ _ z]; exact hx)
  rw [this]
  simp [sn]
def SAt (M : Mem) (b : Nat) (ks : List (Int × Int)) : Prop := M[b]? = some (.dt (sn ks)) ∨ M[b]? = some (.dk []) ∧ ks = []
theorem sAt_see {M : Mem} {b : Nat} {ks : List (Int × Int)} {w n : Int} (h : SAt M b ks) : ∃ M0, dSee M b (.tup [.int w, .int n]) = some ((if (w, n) ∈ ks then some (.bl true) else none), M0) ∧ M0[b]? = some (.dt (sn ks)) ∧ Ch (· = b) M M0 := by
  rcases h with q | ⟨q, rfl⟩
  · refine ⟨M, ?_, q, Ch.refl⟩
    rw [dSee_t q toKeys_a, sn_val]
  · exact ⟨_, dSee_e q toKeys_a, set_get q, Ch.set rfl⟩
theorem fsts_cons {ks : List (Int × Int)} {x : Ask} {l : List Ask} : fsts ks (x :: l) = if x.k ∈ ks then fsts ks l else x :: fsts (ks ++ [x.k]) l := rfl
structure FsInv (M0 : Mem) (n : Nat) (l : List Ask) (i : Nat) (e : Sl) (M : Mem) : Prop where
  h : ∃ (ks : List (Int × Int)) (fs : List Ask) (q3 : Option D), e = [some (.ref n), some (.ref M0.length), some (.ref (M0.length + 1)), q3] ∧ SAt M M0.length ks ∧ M[M0.length + 1]? = some (.lst (fs.map Ask.d)) ∧ Gr M0 M ∧ fs.length ≤ i ∧ ks.length ≤ i ∧ fs ++ fsts ks (l.drop i) = fsts [] l
theorem firsts_ok {M : Mem} {n : Nat} {l : List Ask} (hn : M[n]? = some (.lst (l.map Ask.d))) (hl : l.length ≤ 60) : ∃ k M', m_law_firsts [.ref n] M = .ok (.ref k) M' ∧ M'[k]? = some (.lst ((fsts [] l).map Ask.d)) ∧ Gr M M' := by
  have hz := lt_of hn
  obtain ⟨M2, hM2⟩ : ∃ M2, M2 = M ++ [.dk [], .lst []] := ⟨_, rfl⟩
  have g2 : Gr M M2 := by rw [hM2]; exact Gr.app
  obtain ⟨e', M', hg, hh⟩ := forGo_end (FsInv M n l) (ds := l.map Ask.d) (e := [some (.ref n), some (.ref M.length), some (.ref (M.length + 1)), none]) (M := M2) (src := some (n, l.map Ask.d))
    (g := gN 3) (b := t_law_firsts_2) ⟨[], [], none, rfl, .inr ⟨by rw [hM2]; simp, rfl⟩, by rw [hM2]; simp, g2, by simp, by simp, rfl⟩ (fun _ _ _ _ h => by
      obtain ⟨_, _, _, _, _, _, g, _⟩ := h
      exact lstOf_lst (g _ _ hn)) (by
      rintro i d e M' hd ⟨ks, fs, q3, rfl, hs, hf, g, lf, lk, ef⟩
      rw [List.getElem?_map] at hd
      obtain ⟨x, hx, rfl⟩ := Option.map_eq_some_iff.mp hd
      have hi := (List.getElem?_eq_some_iff.mp hx).1
      refine ⟨_, rfl, ?_⟩
      obtain ⟨M1, e1, b1, c1⟩ := sAt_see (w := x.k.1) (n := x.k.2) hs
      have edrop : l.drop i = x :: l.drop (i + 1) := by
        rw [List.drop_eq_getElem_cons hi]
        congr 1
        have := List.getElem?_eq_getElem hi
        rw [hx] at this
        exact (Option.some.inj this).symm
      rw [edrop] at ef
      have g1 : Gr M M1 := fun j o ho => c1.2 j o (Nat.ne_of_lt (lt_of ho)) (g _ _ ho)
      have f1 := c1.2 _ _ (by omega : ¬ M.length + 1 = M.length) hf
      rw [fsts_cons] at ef
      by_cases z : x.k ∈ ks
      · rw [if_pos z] at ef
        have e1' : dSee M' M.length (.tup [.int x.k.1, .int x.k.2]) = some (some (.bl true), M1) := by rw [e1, if_pos z]
        have ni : sNotIn (.tup [.int x.k.1, .int x.k.2]) (.ref M.length) M' = .ok (.bl false) M1 := orOp_ok (by simp [sInD, e1'])
        simp [t_law_firsts_2, i_law_firsts_1, Ask.d, ni]
        exact ⟨ks, fs, _, rfl, .inl b1, f1, g1, by omega, by omega, ef⟩
      · rw [if_neg z] at ef
        have e1' : dSee M' M.length (.tup [.int x.k.1, .int x.k.2]) = some (none, M1) := by rw [e1, if_neg z]
        have ni : sNotIn (.tup [.int x.k.1, .int x.k.2]) (.ref M.length) M' = .ok (.bl true) M1 := orOp_ok (by simp [sInD, e1'])
        have hzl : (sn ks).length < sizeLine := by
          have : 1000 < sizeLine := by decide
          simp only [sn, List.length_map]
          omega
        have dp : dPut M1 (.ref M.length) (.tup [.int x.k.1, .int x.k.2]) (.bl true) = some (M1.set M.length (.dt (sn (ks ++ [x.k])))) := by
          simp only [dPut, b1, toKeys_a, if_pos hzl]
          rw [show kA (x.k.1, x.k.2) = kA x.k from rfl, sn_put z]
        have f2 := set_ne (o := .dt (sn (ks ++ [x.k]))) f1 (by omega : M.length + 1 ≠ M.length)
        have ap := sAppend_ref (d := x.d) f2 (by simp; omega)
        unfold Ask.d at ap
        simp [t_law_firsts_2, i_law_firsts_1, Ask.d, ni, dp, tyD_list f2, ap]
        refine ⟨ks ++ [x.k], fs ++ [x], _, rfl, .inl (set_ne (set_get b1) (by omega)), by rw [List.map_append]; exact set_get f2, (g1.setN (Nat.le_refl _)).setN (by omega), by simp; omega, by simp; omega, by rw [List.append_assoc]; exact ef⟩)
  obtain ⟨ks, fs, q3, rfl, hs, hf, g, lf, lk, ef⟩ := hh
  rw [List.length_map, List.drop_length] at ef
  simp [fsts] at ef
  rw [ef] at hf
  refine ⟨_, M', ?_, hf, g⟩
  simp only [m_law_firsts, b_law_firsts, f_law_firsts_3]
  have hM2' : M ++ [MO.dk [], MO.lst []] = M2 := hM2.symm
  simp [hM2', itOf_ref (g2 _ _ hn), hg]
theorem ints_eq {M : Mem} {n m : Nat} {xs : List Int} (h1 : M[n]? = some (.lst (xs.map D.int))) (h2 : M[m]? = some (.lst (xs.map D.int))) : eqD M (.ref n) (.ref m) = some true :=
  dat_lists (fun d hd => by obtain ⟨i, _, rfl⟩ := List.mem_map.mp hd; exact dat_int) h1 h2
theorem fN_fN (s t : Str) (l : List Ask) : fN s (fN t l) = if s = t then fN s l else [] := by
  unfold fN
  rw [List.filter_filter]
  by_cases e : s = t
  · subst e
    rw [if_pos rfl]
    congr 1
    funext x
    simp
  · rw [if_neg e, List.filter_eq_nil_iff]
    intro x _
    simp
    intro h1 h2
    exact e (h1.symm.trans h2)
theorem fN_app (s : Str) (l m : List Ask) : fN s (l ++ m) = fN s l ++ fN s m := by unfold fN; rw [List.filter_append]
theorem fN_none {s : Str} {l : List Ask} (h : ∀ x ∈ l, nmA x ∈ nm4) (hs : s ∉ nm4) : fN s l = [] := by
  unfold fN
  rw [List.filter_eq_nil_iff]
  intro x hx
  simp
  intro e
  exact hs (by rw [← e]; exact h x hx)
theorem by_names {l : List Ask} (h : ∀ x ∈ l, nmA x ∈ nm4) {a b c d : Str} (hp : [a, b, c, d].Perm nm4) : (∀ s, fN s (fN a l ++ (fN b l ++ (fN c l ++ fN d l))) = fN s l) := by
  intro s
  have nd : [a, b, c, d].Nodup := hp.nodup_iff.mpr (by decide)
  rw [fN_app, fN_app, fN_app, fN_fN, fN_fN, fN_fN, fN_fN]
  simp at nd
  obtain ⟨⟨n1, n2, n3⟩, ⟨n4, n5⟩, n6⟩ := nd
  by_cases hs : s ∈ nm4
  · have := hp.mem_iff.mpr hs
    simp at this
    rcases this with rfl | rfl | rfl | rfl
    · simp [n1, n2, n3]
    · have m1 : ¬ s = a := fun z => n1 z.symm
      simp [n4, n5, m1]
    · have m1 : ¬ s = a := fun z => n2 z.symm
      have m2 : ¬ s = b := fun z => n4 z.symm
      simp [n6, m1, m2]
    · have m1 : ¬ s = a := fun z => n3 z.symm
      have m2 : ¬ s = b := fun z => n5 z.symm
      have m3 : ¬ s = c := fun z => n6 z.symm
      simp [m1, m2, m3]
  · rw [fN_none h hs]
    have : ∀ t ∈ [a, b, c, d], s ≠ t := fun t ht z => hs (by rw [z]; exact hp.mem_iff.mp ht)
    simp at this
    simp [this.1, this.2.1, this.2.2.1, this.2.2.2]
theorem key_inj : ∀ {l : List Ask}, (l.map Ask.k).Nodup → ∀ x ∈ l, ∀ y ∈ l, x.k = y.k → x = y
  | [], _, x, hx, _, _, _ => by cases hx
  | z :: l, h, x, hx, y, hy, e => by
    rw [List.map_cons, List.nodup_cons] at h
    rcases List.mem_cons.mp hx with ex | hx'
    · rcases List.mem_cons.mp hy with ey | hy'
      · rw [ex, ey]
      · exact absurd (by rw [← ex, e]; exact List.mem_map_of_mem hy') h.1
    · rcases List.mem_cons.mp hy with ey | hy'
      · exact absurd (by rw [← ey, ← e]; exact List.mem_map_of_mem hx') h.1
      · exact key_inj h.2 x hx' y hy' e
theorem names_nd {l : List Ask} (h : (l.map Ask.k).Nodup) {a b c d : Str} (nd : [a, b, c, d].Nodup) : ((fN a l ++ (fN b l ++ (fN c l ++ fN d l))).map Ask.k).Nodup := by
  have inj := key_inj h
  have one : ∀ s, ((fN s l).map Ask.k).Nodup := fun s => h.sublist (List.filter_sublist.map _)
  have mem : ∀ {s : Str} {k : Int × Int}, k ∈ (fN s l).map Ask.k → ∃ x ∈ l, x.k = k ∧ nmA x = s := fun {s k} hk => by
    obtain ⟨x, hx, e⟩ := List.mem_map.mp hk
    obtain ⟨h1, h2⟩ := List.mem_filter.mp hx
    exact ⟨x, h1, e, by simpa using h2⟩
  have ap : ∀ {s t : Str}, s ≠ t → ∀ x ∈ (fN s l).map Ask.k, ∀ y ∈ (fN t l).map Ask.k, x ≠ y := fun {s t} ne x hx y hy e => by
    obtain ⟨u, hu, e1, e2⟩ := mem hx
    obtain ⟨v, hv, e3, e4⟩ := mem hy
    have := inj u hu v hv (by rw [e1, e3, e])
    rw [this] at e2
    exact ne (e2.symm.trans e4)
  simp at nd
  obtain ⟨⟨n1, n2, n3⟩, ⟨n4, n5⟩, n6⟩ := nd
  simp only [List.map_append]
  refine List.nodup_append.mpr ⟨one a, List.nodup_append.mpr ⟨one b, List.nodup_append.mpr ⟨one c, one d, ap n6⟩, fun x hx y hy => ?_⟩, fun x hx y hy => ?_⟩
  · rcases List.mem_append.mp hy with q | q
    · exact ap n4 x hx y q
    · exact ap n5 x hx y q
  · rcases List.mem_append.mp hy with q | q
    · exact ap n1 x hx y q
    · rcases List.mem_append.mp q with q | q
      · exact ap n2 x hx y q
      · exact ap n3 x hx y q
theorem nm_order (x1 : Int) : ∃ f : Nat → Str, (∀ k : Nat, k < 4 → nm4[((x1 + (1 + x1 / 4 % 2 * 2) * k) % 4).toNat]? = some (f k)) ∧ [f 0, f 1, f 2, f 3].Perm nm4 := by
  refine ⟨fun k => nm4.getD ((x1 + (1 + x1 / 4 % 2 * 2) * k) % 4).toNat "", fun k _ => ?_, ?_⟩
  · have : ((x1 + (1 + x1 / 4 % 2 * 2) * k) % 4).toNat < nm4.length := by
      have := modP' (x1 + (1 + x1 / 4 % 2 * 2) * k) (j := 4) (by decide)
      simp [nm4]
      omega
    simp [List.getElem?_eq_getElem this]
  · have h4 : x1 % 4 = 0 ∨ x1 % 4 = 1 ∨ x1 % 4 = 2 ∨ x1 % 4 = 3 := by omega
    have h2 : x1 / 4 % 2 = 0 ∨ x1 / 4 % 2 = 1 := by omega
    have r : ∀ (m : Int) (k : Nat), (x1 + m * k) % 4 = (x1 % 4 + m * k) % 4 := fun m k => by omega
    rcases h2 with e | e <;> rcases h4 with q | q | q | q <;> simp only [e, r, q] <;> decide
structure TInv (M0 : Mem) (e0 : Sl) (t : Nat) (l : List Ask) (f : Nat → Str) (i : Nat) (e : Sl) (M : Mem) : Prop where
  h : ∃ q14 q15, e = (e0.set 14 q14).set 15 q15 ∧ ShAt M t (t + 1) (t + 2) (runS ([], []) ((List.range i).flatMap fun k => fN (f k) l)).1 (runS ([], []) ((List.range i).flatMap fun k => fN (f k) l)).2 ∧ LK M0 M ∧ ∀ j, j < t → ∀ o, M0[j]? = some o → M[j]? = some o
def ofN (s : Str) (d : D) : Bool := match d with
  | .tup [_, _, .tup (_ :: .str t :: _)] => decide (t = s)
  | _ => false
theorem ofN_d (s : Str) (x : Ask) : ofN s x.d = decide (nmA x = s) := by
  cases x with | mk k o => cases o <;> rfl
theorem ix21 (M : Mem) (x : Ask) : sIx x.d (.int 2) M = .ok x.o.d M ∧ sIx x.o.d (.int 1) M = .ok (.str (nmA x)) M := by
  refine ⟨sIx_tup2, ?_⟩
  cases x with | mk k o => cases o <;> exact sIx_tup1
theorem fN_d (s : Str) (l : List Ask) : (l.map Ask.d).filter (ofN s) = (fN s l).map Ask.d := by
  unfold fN
  rw [List.filter_map]
  congr 1
  refine List.filter_congr fun x _ => ?_
  exact ofN_d s x
theorem range_flat {α : Type} (g : Nat → List α) (i : Nat) : (List.range (i + 1)).flatMap g = (List.range i).flatMap g ++ g i := by
  rw [List.range_succ, List.flatMap_append]
  simp
theorem flat_len {l : List Ask} {f : Nat → Str} : ∀ i : Nat, ((List.range i).flatMap fun k => fN (f k) l).length ≤ i * l.length
  | 0 => by simp
  | i + 1 => by
    rw [range_flat, List.length_append, Nat.succ_mul]
    have h1 := flat_len (l := l) (f := f) i
    have h2 : (fN (f i) l).length ≤ l.length := List.length_filter_le _ _
    omega
theorem tturn {M0 : Mem} {e0 : Sl} {t x n10 n12 : Nat} {xs : List Int} {x1 : Int} {l : List Ask} {f : Nat → Str} {i : Nat} {d : D} {e : Sl} {M : Mem} (hl : l.length ≤ 49) (he : ∃ q0 q1 q3 q4 q5 q6 q7 q8 q9 q11 q14 q15, e0 = [q0, q1, some (.ref x), q3, q4, q5, q6, q7, q8, q9, some (.ref n10), q11, some (.ref n12), some (.ref t), q14, q15])
    (hx : M0[x]? = some (.lst (xs.map D.int))) (p1 : xs[1]? = some x1) (h10 : M0[n10]? = some (.lst (l.map Ask.d))) (h12 : M0[n12]? = some (.lst (nm4.map D.str))) (hf : ∀ k : Nat, k < 4 → nm4[((x1 + (1 + x1 / 4 % 2 * 2) * k) % 4).toNat]? = some (f k))
    (hd : (rng 0 4)[i]? = some d) (h : TInv M0 e0 t l f i e M) : ∃ e1, gN 14 d e = some e1 ∧ (t_law_3 e1 M).to (TInv M0 e0 t l f (i + 1)) (fun _ _ => False) := by
  obtain ⟨q14, q15, rfl, H, k0, kp⟩ := h
  obtain ⟨hi, rfl⟩ := rng_get hd
  obtain ⟨q0, q1, q3, q4, q5, q6, q7, q8, q9, q11, _, _, rfl⟩ := he
  refine ⟨_, rfl, ?_⟩
  have md : ∀ (z j : Int) (M : Mem), 0 < j → sMod (.int z) (.int j) M = .ok (.int (z % j)) M := fun z j M h => sMod_int h
  have dv : ∀ (z j : Int) (M : Mem), 0 < j → j < 1073741824 → sDiv (.int z) (.int j) M = .ok (.int (z / j)) M := fun z j M h h' => sDiv_int h h'
  have ix1 : sIx (.ref x) (.int 1) M = .ok (.int x1) M := ix_ints (k0 _ _ hx) rfl p1
  have ml1 : ∀ z : Int, sMul (.int z) (.int 2) M = .ok (.int (z * 2)) M := fun z => sMul_int (.inr (by omega))
  have ml2 : ∀ z : Int, sMul (.int z) (.int (i : Int)) M = .ok (.int (z * i)) M := fun z => sMul_int (.inr (by omega))
  have nn := modP' (x1 + (1 + x1 / 4 % 2 * 2) * i) (j := 4) (by decide)
  have ixn : sIx (.ref n12) (.int ((x1 + (1 + x1 / 4 % 2 * 2) * i) % 4)) M = .ok (.str (f i)) M := sIx_ref (k0 _ _ h12) nn.1 (by rw [List.getElem?_map, hf i hi]; rfl)
  have h10' := k0 _ _ h10
  have cf := cpGo_filter (src := some (n10, l.map Ask.d)) (tt := mTest (mBin sEq (mBin sIx (mBin sIx (mVar 0) (mC (.int 2))) (mC (.int 1))) (mVar 1))) (te := mVar 0) (ce := [some (.str (f i))]) (M := M) (ofN (f i)) id (ds := l.map Ask.d) (ys := []) (lstOf_lst h10') fun d hd => by
    obtain ⟨y, _, rfl⟩ := List.mem_map.mp hd
    have := ix21 M y
    simp [this.1, this.2, ofN_d]
  rw [List.nil_append, List.map_id, fN_d] at cf
  obtain ⟨M1, hM1⟩ : ∃ M1, M1 = M ++ [.lst ((fN (f i) l).map Ask.d)] := ⟨_, rfl⟩
  rw [← hM1] at cf
  have g1 : Gr M M1 := by rw [hM1]; exact Gr.app
  have h1 : M1[M.length]? = some (.lst ((fN (f i) l).map Ask.d)) := by rw [hM1]; exact app_last
  have fl := flat_len (l := l) (f := f) i
  have fl2 : (fN (f i) l).length ≤ l.length := List.length_filter_le _ _
  have rl := run_len ([], []) ((List.range i).flatMap fun k => fN (f k) l)
  have bnd : i * l.length ≤ 3 * 49 := Nat.mul_le_mul (by omega) hl
  simp only [List.length_nil, Nat.zero_add] at rl
  obtain ⟨k, M2, e2, h2, H2, c2, k2⟩ := done_ok (l := fN (f i) l) (s := runS ([], []) ((List.range i).flatMap fun k => fN (f k) l)) (H.gr g1) h1 (by omega) (by omega)
  simp [t_law_3, ix1, dv, md, ml1, ml2, ixn, itOf_ref h10', capE, cf, e2]
  refine ⟨_, _, rfl, ?_, (k0.trans g1.lk).trans k2, fun j hj o ho => c2.2 _ _ (by omega) (g1 _ _ (kp j hj o ho))⟩
  rw [range_flat, run_app]
  exact H2
theorem pA_len (vs : List (Str × Int)) (l : List Ask) : (pA vs l).length = l.length := by
  induction l generalizing vs with
  | nil => rfl
  | cons x l ih => simp [pA, ih]
theorem cut_to {α : Type} (xs : List α) (c : Nat) (h : c ≤ xs.length) : cut xs none (some (c : Int)) = xs.take c := by
  unfold cut
  rw [HT.sIx_none, HT.sIx_nat]
  simp
theorem cut_fr {α : Type} (xs : List α) (c : Nat) (h : c ≤ xs.length) : cut xs (some (c : Int)) none = xs.drop c := by
  unfold cut
  rw [HT.sIx_none, HT.sIx_nat, show min c xs.length = c by omega]
  rw [List.take_of_length_le]
  simp
theorem law_ok (ns : List Int) (hns : ns.length ≤ 63) : ∃ M, m_law [.cl (ns.map D.int)] [] = .ok (.bl true) M := by
  have c0 : ∀ M : Mem, m_law_cell_at [.cl (ns.map D.int), .int 0] M = .ok (.int (cell ns 0)) M := fun M => cell_ok ns 0 rfl
  obtain ⟨asks, M1, e1, a1, g1, la, hnm⟩ := asks_ok (M := []) hns
  simp only [List.length_nil] at e1 a1
  obtain ⟨xs, x, M2, hxs, e2, x2, g2⟩ := stream_ok' (M := M1) (cell ns 0) 2 (nn := 2) rfl (by decide)
  obtain ⟨x0, p0, _, _⟩ := str_get hxs (i := 0) (by decide)
  obtain ⟨x1, p1, _, _⟩ := str_get hxs (i := 1) (by decide)
  have i0 : sIx (.ref x) (.int 0) M2 = .ok (.int x0) M2 := ix_ints x2 rfl p0
  have a2 := g2.lk _ _ a1
  have len2 := sLen_ref a2
  rw [List.length_map] at len2
  have hm := modP' x0 (j := (asks.length : Int) + 1) (by omega)
  have md : sMod (.int x0) (.int ((asks.length : Int) + 1)) M2 = .ok (.int (x0 % ((asks.length : Int) + 1))) M2 := sMod_int (by omega)
  obtain ⟨c, hc⟩ : ∃ c : Nat, x0 % ((asks.length : Int) + 1) = c := ⟨_, (Int.toNat_of_nonneg hm.1).symm⟩
  rw [hc] at md
  have hcl : c ≤ asks.length := by omega
  obtain ⟨M3, e3, H3, g3, _⟩ := sh_init (M := M2)
  obtain ⟨k5, M4, e4, l4, H4, _, lk4⟩ := done_ok (l := asks) (s := ([], [])) H3 (g3.lk _ _ a2) (by simp; omega) (by simp; omega)
  have nd1 := run_nd (s := ([], [])) ⟨List.nodup_nil, List.nodup_nil⟩ asks
  have rl1 := run_len ([], []) asks
  simp only [List.length_nil, Nat.zero_add] at rl1
  obtain ⟨s1, hs1⟩ : ∃ s1, s1 = runS ([], []) asks := ⟨_, rfl⟩
  rw [← hs1] at H4 nd1 rl1
  obtain ⟨M5, e5, g5⟩ := told_ok H4 (by omega) (by omega)
  obtain ⟨due, hdue⟩ : ∃ due, due = toldD s1.1 s1.2 := ⟨_, rfl⟩
  rw [← hdue] at e5
  have a5 := g5.lk _ _ (lk4 _ _ (g3.lk _ _ a2))
  have r5 := g5.lk _ _ l4
  have x5 := g5.lk _ _ (lk4 _ _ (g3.lk _ _ x2))
  obtain ⟨M6, e6, H6, g6, _⟩ := sh_init (M := M5)
  have sl1 := sSl_ref (lo := none) (hi := some (c : Int)) (g6.lk _ _ a5)
  rw [cut_to _ c (by simpa using hcl), ← List.map_take] at sl1
  obtain ⟨M7, hM7⟩ : ∃ M7, M7 = M6 ++ [.lst ((asks.take c).map Ask.d)] := ⟨_, rfl⟩
  rw [← hM7] at sl1
  have g7 : Gr M6 M7 := by rw [hM7]; exact Gr.app
  have l7 : M7[M6.length]? = some (.lst ((asks.take c).map Ask.d)) := by rw [hM7]; exact app_last
  have lt : (asks.take c).length ≤ asks.length := by rw [List.length_take]; omega
  obtain ⟨k8, M8, e8, l8, H8, _, lk8⟩ := done_ok (l := asks.take c) (s := ([], [])) (H6.gr g7) l7 (by simp; omega) (by simp; omega)
  have nd2 := run_nd (s := ([], [])) ⟨List.nodup_nil, List.nodup_nil⟩ (asks.take c)
  have rl2 := run_len ([], []) (asks.take c)
  simp only [List.length_nil, Nat.zero_add] at rl2
  obtain ⟨s2, hs2⟩ : ∃ s2, s2 = runS ([], []) (asks.take c) := ⟨_, rfl⟩
  rw [← hs2] at H8 nd2 rl2
  obtain ⟨M9, e9, g9⟩ := told_ok H8 (by omega) (by omega)
  obtain ⟨M10, e10, H10, g10, _⟩ := shelf_of_ok (M := M9) nd2.1 nd2.2 (by omega) (by omega)
  have lk510 : LK M5 M10 := (((g6.lk.trans g7.lk).trans lk8).trans g9.lk).trans g10.lk
  have a10 := lk510 _ _ a5
  have sl2 := sSl_ref (lo := some (c : Int)) (hi := none) a10
  rw [cut_fr _ c (by simpa using hcl), ← List.map_drop] at sl2
  obtain ⟨M11, hM11⟩ : ∃ M11, M11 = M10 ++ [.lst ((asks.drop c).map Ask.d)] := ⟨_, rfl⟩
  rw [← hM11] at sl2
  have g11 : Gr M10 M11 := by rw [hM11]; exact Gr.app
  have l11 : M11[M10.length]? = some (.lst ((asks.drop c).map Ask.d)) := by rw [hM11]; exact app_last
  have ld : (asks.drop c).length ≤ asks.length := by rw [List.length_drop]; omega
  have lu := unV_len s2.1
  have lw := unA_len s2.2
  obtain ⟨k12, M12, e12, l12, H12, _, lk12⟩ := done_ok (l := asks.drop c) (s := (unV s2.1, unA s2.2)) (H10.gr g11) l11 (by dsimp only; omega) (by dsimp only; omega)
  have L0 : LikeS (unV s2.1, unA s2.2) s2 := Like.un nd2.1 nd2.2
  have L1 := like_run L0 (asks.drop c)
  have er : runS s2 (asks.drop c) = s1 := by rw [hs2, ← run_app, List.take_append_drop, hs1]
  rw [er] at L1
  have ea : ansS ([], []) (asks.take c) ++ ansS (unV s2.1, unA s2.2) (asks.drop c) = ansS ([], []) asks := by
    rw [L1.2, hs2, ← ans_app, List.take_append_drop]
  have l8' := lk12 _ _ (g11.lk _ _ (g10.lk _ _ (g9.lk _ _ l8)))
  have an1 := ans_len ([], []) (asks.take c)
  have an2 := ans_len (unV s2.1, unA s2.2) (asks.drop c)
  have ca := sCat_ref l8' l12 (by simp only [List.length_map]; omega)
  rw [← List.map_append, ea] at ca
  obtain ⟨M13, hM13⟩ : ∃ M13, M13 = M12 ++ [.lst ((ansS ([], []) asks).map D.int)] := ⟨_, rfl⟩
  rw [← hM13] at ca
  have g13 : Gr M12 M13 := by rw [hM13]; exact Gr.app
  have l13 : M13[M12.length]? = some (.lst ((ansS ([], []) asks).map D.int)) := by rw [hM13]; exact app_last
  have lk513 : LK M5 M13 := ((lk510.trans g11.lk).trans lk12).trans g13.lk
  have q13 := sNe_of (ints_eq l13 (lk513 _ _ r5))
  have rl3 := run_len (unV s2.1, unA s2.2) (asks.drop c)
  dsimp only at rl3
  have tc : (asks.take c).length + (asks.drop c).length = asks.length := by rw [List.length_take, List.length_drop]; omega
  obtain ⟨M14, e14, g14⟩ := told_ok (H12.gr g13) (by omega) (by omega)
  rw [L1.1.told, ← hdue] at e14
  have dn : ∀ M, sNe due due M = .ok (.bl false) M := fun M => by rw [hdue]; exact told_ne
  have de : ∀ M, sEq due due M = .ok (.bl true) M := fun M => by rw [hdue]; exact sEq_of (dat_eq dat_told M)
  have lk514 := lk513.trans g14.lk
  obtain ⟨n10, M15, e15, l15, g15⟩ := firsts_ok (lk514 _ _ a5) (by omega)
  obtain ⟨fs, hfs⟩ : ∃ fs, fs = fsts [] asks := ⟨_, rfl⟩
  have fn := fsts_new [] asks
  have rf := run_fsts ([], []) asks
  simp only [List.map_nil] at rf
  rw [← hfs] at l15 fn rf
  have lf : fs.length ≤ asks.length := by
    have := (List.Nodup.length_le_of_subset (l₁ := fs.map Ask.k) (l₂ := asks.map Ask.k) fn.2.1 (fun k hk => by
      obtain ⟨y, hy, rfl⟩ := List.mem_map.mp hk
      exact List.mem_map_of_mem (fn.2.2 y hy)))
    simpa using this
  obtain ⟨M16, e16, H16, g16, _⟩ := sh_init (M := M15)
  obtain ⟨k17, M17, e17, _, H17, _, lk17⟩ := done_ok (l := fs) (s := ([], [])) H16 (g16.lk _ _ l15) (by simp; omega) (by simp; omega)
  rw [← rf, ← hs1] at H17
  obtain ⟨M18, e18, g18⟩ := told_ok H17 (by omega) (by omega)
  rw [← hdue] at e18
  have ln : s1.2.length = fs.length := by
    rw [hs1, rf, run_new (s := ([], [])) (by simp) fn.2.1]
    simp [pA_len]
  have lk1518 : LK M15 M18 := (g16.lk.trans lk17).trans g18.lk
  have n18 := lk1518 _ _ l15
  have ix18 : sIx due (.int 1) M18 = .ok (.tup (aTold s1.2)) M18 := by rw [hdue]; exact told_ix1
  have len18 := sLen_ref n18
  rw [List.length_map] at len18
  obtain ⟨M19, hM19⟩ : ∃ M19, M19 = M18 ++ [.lst [.str "a", .str "aa", .str "ba", .str "zzzzzzzz"]] := ⟨_, rfl⟩
  have g19 : Gr M18 M19 := by rw [hM19]; exact Gr.app
  have l19 : M19[M18.length]? = some (.lst (nm4.map D.str)) := by rw [hM19]; exact app_last
  obtain ⟨M20, e20, H20, g20, z20⟩ := sh_init (M := M19)
  obtain ⟨f, hf, hp⟩ := nm_order x1
  have lk520 : LK M5 M20 := ((((lk514.trans g15.lk).trans lk1518).trans g19.lk).trans g20.lk)
  have e3' : rng1 [.int 4] M20 = .ok ⟨none, rng 0 4⟩ M20 := rng1_int (by decide) (by decide)
  obtain ⟨e0, he0⟩ : ∃ e0 : Sl, e0 = [some (.cl (ns.map D.int)), some (.ref 0), some (.ref x), some (.int c), some (.ref M2.length), some (.ref k5), some due, some (.ref M5.length), some (.ref M12.length), some (.ref M9.length), some (.ref n10), some (.ref M15.length), some (.ref M18.length), some (.ref M19.length), none, none] := ⟨_, rfl⟩
  obtain ⟨e', M21, hg, hh⟩ := forGo_end (TInv M20 e0 M19.length fs f) (ds := rng 0 4) (e := e0) (M := M20) (src := none) (g := gN 14) (b := t_law_3)
    ⟨none, none, by rw [he0]; rfl, H20, LK.refl, fun _ _ _ h => h⟩ (fun _ _ _ _ _ => trivial) fun i d e M hd h =>
      tturn (by omega) (by rw [he0]; exact ⟨_, _, _, _, _, _, _, _, _, _, _, _, rfl⟩) (lk520 _ _ x5) p1 (g20.lk _ _ (g19.lk _ _ n18)) (g20.lk _ _ l19) hf hd h
  rw [rng_len] at hh
  obtain ⟨q14, q15, rfl, H21, k21, -⟩ := hh
  have fl : ((List.range 4).flatMap fun k => fN (f k) fs) = fN (f 0) fs ++ (fN (f 1) fs ++ (fN (f 2) fs ++ fN (f 3) fs)) := by
    simp [List.range_succ, List.flatMap_append]
  rw [fl] at H21
  have hnf : ∀ y ∈ fs, nmA y ∈ nm4 := fun y hy => hnm y (fn.2.2 y hy)
  have nd4 : [f 0, f 1, f 2, f 3].Nodup := hp.nodup_iff.mpr (by decide)
  have LT := run_names (names_nd fn.2.1 nd4) fn.2.1 (by_names hnf hp)
  rw [← rf, ← hs1] at LT
  obtain ⟨s3, hs3⟩ : ∃ s3, s3 = runS ([], []) (fN (f 0) fs ++ (fN (f 1) fs ++ (fN (f 2) fs ++ fN (f 3) fs))) := ⟨_, rfl⟩
  rw [← hs3] at LT H21
  have l3v : s3.1.length < 64 ∧ s3.2.length < 64 := by
    have a := run_len ([], []) (fN (f 0) fs ++ (fN (f 1) fs ++ (fN (f 2) fs ++ fN (f 3) fs)))
    rw [← hs3] at a
    have b : (fN (f 0) fs ++ (fN (f 1) fs ++ (fN (f 2) fs ++ fN (f 3) fs))).length ≤ fs.length := by
      have := (List.Nodup.length_le_of_subset (l₁ := (fN (f 0) fs ++ (fN (f 1) fs ++ (fN (f 2) fs ++ fN (f 3) fs))).map Ask.k) (l₂ := fs.map Ask.k) (names_nd fn.2.1 nd4) (fun k hk => by
        obtain ⟨y, hy, rfl⟩ := List.mem_map.mp hk
        refine List.mem_map_of_mem ?_
        simp only [List.mem_append] at hy
        rcases hy with q | q | q | q <;> exact (List.mem_filter.mp q).1))
      simpa using this
    simp only [List.length_nil, Nat.zero_add] at a
    omega
  obtain ⟨M22, e22, g22⟩ := told_ok H21 l3v.1 l3v.2
  rw [LT.told, ← hdue] at e22
  have lk522 := (lk520.trans k21).trans g22.lk
  obtain ⟨k23, M23, e23, l23, _, _, lk23⟩ := done_ok (l := asks) (s := s3) (H21.gr g22) (lk522 _ _ a5) (by omega) (by omega)
  have ag := again (s := s3) (l := asks) fun y hy => by
    rw [LT.a, hs1]
    exact run_has _ _ y hy
  have ea2 : ansS s3 asks = ansS ([], []) asks := by
    rw [ag.2, ans_val, ← hs1]
    exact List.map_congr_left fun y _ => by rw [LT.a]
  rw [ea2] at l23
  have q23 := sEq_of (ints_eq l23 (lk23 _ _ (lk522 _ _ r5)))
  refine ⟨M23, ?_⟩
  subst he0
  simp only [m_law, b_law, f_law_4]
  simp [e1, c0, e2, i0, len2, md, e3, e4, H4.me (m := "told") rfl, e5, e6, sl1, e8, H8.me (m := "told") rfl, e9, e10, sl2, e12, ca, i_law_1, q13, (H12.gr g13).me (m := "told") rfl, e14, dn, e15, e16, e17, i_law_2, H17.me (m := "told") rfl, e18, ix18, aTold_len, ln, len18, ← hM19, e20, e3', hg, H21.me (m := "told") rfl, e22, de, e23, q23]
end My
namespace My
open PySem L2 S
def top (i : Nat) : Stmt := PySem.Challenge.pw_chairvote_k14_whole_shelves_agree.main.body.getD i (.Pass ⟨0, 0, 0, 0⟩)
abbrev s_law_stream : Stmt := top 6
abbrev s_law_asks : Stmt := top 7
abbrev s_law_cell_at : Stmt := top 5
abbrev s_Shelf_init : Stmt := inClass (top 2) 0
abbrev s_Shelf_value_of : Stmt := inClass (top 2) 1
abbrev s_Shelf_obey : Stmt := inClass (top 2) 3
abbrev s_Shelf_do : Stmt := inClass (top 2) 2
abbrev s_law_done : Stmt := top 8
abbrev s_Shelf_told : Stmt := inClass (top 2) 4
abbrev s_shelf_of : Stmt := top 3
abbrev s_law_firsts : Stmt := top 9
abbrev s_law : Stmt := top 10
structure Adr where
  f_law_stream : Addr
  d_law_stream : FuncData
  f_law_asks : Addr
  d_law_asks : FuncData
  f_law_cell_at : Addr
  d_law_cell_at : FuncData
  f_Shelf_init : Addr
  d_Shelf_init : FuncData
  f_Shelf_value_of : Addr
  d_Shelf_value_of : FuncData
  f_Shelf_obey : Addr
  d_Shelf_obey : FuncData
  f_Shelf_do : Addr
  d_Shelf_do : FuncData
  f_law_done : Addr
  d_law_done : FuncData
  f_Shelf_told : Addr
  d_Shelf_told : FuncData
  f_shelf_of : Addr
  d_shelf_of : FuncData
  f_law_firsts : Addr
  d_law_firsts : FuncData
  f_law : Addr
  d_law : FuncData
  c_Shelf : Addr
structure Txt (K : PySem.W.Frag) (mg : Str → Option Value) (t : Adr) : Prop where
  fn_law_stream : FunD K "_law_stream" "_law_stream" s_law_stream .none t.f_law_stream t.d_law_stream
  b_law_stream : Binds K t.d_law_stream ["_law_cell", "_law_size"] []
  mg_law_stream : mg "_law_stream" = some (.ref t.f_law_stream)
  fn_law_asks : FunD K "_law_asks" "_law_asks" s_law_asks .none t.f_law_asks t.d_law_asks
  b_law_asks : Binds K t.d_law_asks ["_law_script"] []
  mg_law_asks : mg "_law_asks" = some (.ref t.f_law_asks)
  fn_law_cell_at : FunD K "_law_cell_at" "_law_cell_at" s_law_cell_at .none t.f_law_cell_at t.d_law_cell_at
  b_law_cell_at : Binds K t.d_law_cell_at ["_law_script", "_law_k"] []
  mg_law_cell_at : mg "_law_cell_at" = some (.ref t.f_law_cell_at)
  fn_Shelf_init : FunD K "__init__" "Shelf.__init__" s_Shelf_init .none t.f_Shelf_init t.d_Shelf_init
  b_Shelf_init : Binds K t.d_Shelf_init ["self"] []
  mk_Shelf : Mk K t.c_Shelf t.f_Shelf_init
  fn_Shelf_value_of : FunD K "value_of" "Shelf.value_of" s_Shelf_value_of .none t.f_Shelf_value_of t.d_Shelf_value_of
  b_Shelf_value_of : Binds K t.d_Shelf_value_of ["self", "name"] []
  me_Shelf_value_of : Meth K t.c_Shelf "value_of" t.f_Shelf_value_of
  fn_Shelf_obey : FunD K "obey" "Shelf.obey" s_Shelf_obey .none t.f_Shelf_obey t.d_Shelf_obey
  b_Shelf_obey : Binds K t.d_Shelf_obey ["self", "order"] []
  me_Shelf_obey : Meth K t.c_Shelf "obey" t.f_Shelf_obey
  fn_Shelf_do : FunD K "do" "Shelf.do" s_Shelf_do .none t.f_Shelf_do t.d_Shelf_do
  b_Shelf_do : Binds K t.d_Shelf_do ["self", "who", "number", "order"] []
  me_Shelf_do : Meth K t.c_Shelf "do" t.f_Shelf_do
  fn_law_done : FunD K "_law_done" "_law_done" s_law_done .none t.f_law_done t.d_law_done
  b_law_done : Binds K t.d_law_done ["_law_shelf", "_law_asks_here"] []
  mg_law_done : mg "_law_done" = some (.ref t.f_law_done)
  fn_Shelf_told : FunD K "told" "Shelf.told" s_Shelf_told .none t.f_Shelf_told t.d_Shelf_told
  b_Shelf_told : Binds K t.d_Shelf_told ["self"] []
  me_Shelf_told : Meth K t.c_Shelf "told" t.f_Shelf_told
  fn_shelf_of : FunD K "shelf_of" "shelf_of" s_shelf_of .none t.f_shelf_of t.d_shelf_of
  b_shelf_of : Binds K t.d_shelf_of ["told"] []
  mg_shelf_of : mg "shelf_of" = some (.ref t.f_shelf_of)
  fn_law_firsts : FunD K "_law_firsts" "_law_firsts" s_law_firsts .none t.f_law_firsts t.d_law_firsts
  b_law_firsts : Binds K t.d_law_firsts ["_law_asks_here"] []
  mg_law_firsts : mg "_law_firsts" = some (.ref t.f_law_firsts)
  fn_law : FunD K "law" "law" s_law .none t.f_law t.d_law
  b_law : Binds K t.d_law ["_law_script"] []
  mg_law : mg "law" = some (.ref t.f_law)
  cl_Shelf : Cls K t.c_Shelf
  mg_Shelf : mg "Shelf" = some (.ref t.c_Shelf)
  na_Shelf_amounts : NoAttr K t.c_Shelf "amounts"
  na_Shelf_answered : NoAttr K t.c_Shelf "answered"
  m_len : mg "len" = none
  m_range : mg "range" = none
  m_sorted : mg "sorted" = none
  m_tuple : mg "tuple" = none
def ctOf (t : Adr) : Nat → Addr := fun k => match k with
  | 0 => t.c_Shelf
  | _ => 0
section
variable {P : Program} {w : World} {K : PySem.W.Frag} {mg : Str → Option Value} {base : Heap} {t : Adr}
theorem sc_law_stream : FnScope ["_law_cell", "_law_size", "_law_found", "_law_digits", "_law_k", "_law_number"] ["_law_cell", "_law_size"] (defScope s_law_stream) := ⟨rfl, rfl, rfl, by decide +kernel, rfl, by decide +kernel, by decide +kernel⟩
theorem sc_law_asks : FnScope ["_law_script", "_law_found", "_law_cell", "_law_xs", "_law_name", "_law_n", "_law_order"] ["_law_script"] (defScope s_law_asks) := ⟨rfl, rfl, rfl, by decide +kernel, rfl, by decide +kernel, by decide +kernel⟩
theorem sc_law_cell_at : FnScope ["_law_script", "_law_k"] ["_law_script", "_law_k"] (defScope s_law_cell_at) := ⟨rfl, rfl, rfl, by decide +kernel, rfl, by decide +kernel, by decide +kernel⟩
theorem sc_Shelf_init : FnScope ["self"] ["self"] (defScope s_Shelf_init) := ⟨rfl, rfl, rfl, by decide +kernel, rfl, by decide +kernel, by decide +kernel⟩
theorem sc_Shelf_value_of : FnScope ["self", "name"] ["self", "name"] (defScope s_Shelf_value_of) := ⟨rfl, rfl, rfl, by decide +kernel, rfl, by decide +kernel, by decide +kernel⟩
theorem sc_Shelf_obey : FnScope ["self", "order", "name", "before"] ["self", "order"] (defScope s_Shelf_obey) := ⟨rfl, rfl, rfl, by decide +kernel, rfl, by decide +kernel, by decide +kernel⟩
theorem sc_Shelf_do : FnScope ["self", "who", "number", "order", "ask"] ["self", "who", "number", "order"] (defScope s_Shelf_do) := ⟨rfl, rfl, rfl, by decide +kernel, rfl, by decide +kernel, by decide +kernel⟩
theorem sc_law_done : FnScope ["_law_shelf", "_law_asks_here"] ["_law_shelf", "_law_asks_here"] (defScope s_law_done) := ⟨rfl, rfl, rfl, by decide +kernel, rfl, by decide +kernel, by decide +kernel⟩
theorem sc_Shelf_told : FnScope ["self", "values", "answers"] ["self"] (defScope s_Shelf_told) := ⟨rfl, rfl, rfl, by decide +kernel, rfl, by decide +kernel, by decide +kernel⟩
theorem sc_shelf_of : FnScope ["told", "shelf", "name", "value", "who", "number", "answer"] ["told"] (defScope s_shelf_of) := ⟨rfl, rfl, rfl, by decide +kernel, rfl, by decide +kernel, by decide +kernel⟩
theorem sc_law_firsts : FnScope ["_law_asks_here", "_law_seen", "_law_found", "_law_ask"] ["_law_asks_here"] (defScope s_law_firsts) := ⟨rfl, rfl, rfl, by decide +kernel, rfl, by decide +kernel, by decide +kernel⟩
theorem sc_law : FnScope ["_law_script", "_law_asks_here", "_law_xs", "_law_cut", "_law_shelf", "_law_answers", "_law_due", "_law_early", "_law_found", "_law_late", "_law_firsts_here", "_law_once", "_law_names", "_law_turned", "_law_k", "_law_name"] ["_law_script"] (defScope s_law) := ⟨rfl, rfl, rfl, by decide +kernel, rfl, by decide +kernel, by decide +kernel⟩
set_option maxHeartbeats 0 in
theorem ok_law_stream (T : Txt K mg t) : FnOk P w K mg base (CXx P w) 1 t.f_law_stream t.d_law_stream ["_law_cell", "_law_size"] (spS K (ctOf t) m_law_stream 2) := by
  show FnOk P w K mg base (CXx P w) (0 + 1) t.f_law_stream t.d_law_stream ["_law_cell", "_law_size"] (spS K (ctOf t) (runF 6 b_law_stream) 2)
  refine fn_s (n := 6) (ar := 2) (k := 0) (b := b_law_stream) T.fn_law_stream sc_law_stream rfl rfl ?_
  intro cdv A outer s H E W hr
  exact (ss_cons (ss_set (i := 2) sc_law_stream.nd rfl (Or.inl rfl) (se_lst sa_nil))
    (ss_cons (ss_if (st_cmp (bs_eq hr.units) (se_bin bs_mod (se_var 0) se_int) se_int (nomark _)) (ss_cons (ss_set (i := 3) sc_law_stream.nd rfl (Or.inl rfl) (se_bin bs_div (se_var 0) se_int))
    (ss_cons (ss_for (own_wish rfl rfl) rfl (si_range1 rfl T.m_range (sa_cons (se_var 1) sa_nil)) (sg_name (i := 4) sc_law_stream.nd rfl (Or.inl rfl)) (ss_cons (ss_expr (se_bm PySem.F.plainAttrs_list PySem.F.slot_list_append PySem.F.type_list_append ms_append (se_var 2) (sa_cons (se_bin bs_mod (se_var 3) (se_bin bs_pow se_int se_int)) sa_nil)))
    (ss_one (ss_set (i := 3) sc_law_stream.nd rfl (Or.inl rfl) (se_bin bs_div (se_var 3) (se_bin bs_pow se_int se_int))))))
    (ss_one (ss_ret (se_var 2))))) ss_nil)
    (ss_cons (ss_set (i := 5) sc_law_stream.nd rfl (Or.inl rfl) (se_bin bs_mod (se_bin bs_add (se_bin bs_mul (se_var 0) se_int) se_int) se_int))
    (ss_cons (ss_for (own_wish rfl rfl) rfl (si_range1 rfl T.m_range (sa_cons (se_var 1) sa_nil)) (sg_name (i := 4) sc_law_stream.nd rfl (Or.inl rfl)) (ss_cons (ss_set (i := 5) sc_law_stream.nd rfl (Or.inl rfl) (se_bin bs_mod (se_bin bs_add (se_bin bs_add (se_bin bs_mul (se_var 5) (se_bin bs_add (se_bin bs_div (se_var 5) se_int) se_int)) (se_var 4)) se_int) se_int))
    (ss_one (ss_expr (se_bm PySem.F.plainAttrs_list PySem.F.slot_list_append PySem.F.type_list_append ms_append (se_var 2) (sa_cons (se_var 5) sa_nil))))))
    (ss_one (ss_ret (se_var 2)))))))
set_option maxHeartbeats 0 in
theorem ok_law_asks (T : Txt K mg t) : FnOk P w K mg base (CXx P w) 2 t.f_law_asks t.d_law_asks ["_law_script"] (spS K (ctOf t) m_law_asks 1) := by
  show FnOk P w K mg base (CXx P w) (1 + 1) t.f_law_asks t.d_law_asks ["_law_script"] (spS K (ctOf t) (runF 7 b_law_asks) 1)
  have G_law_stream := ok_law_stream (P := P) (w := w) (base := base) T
  refine fn_s (n := 7) (ar := 1) (k := 1) (b := b_law_asks) T.fn_law_asks sc_law_asks rfl rfl ?_
  intro cdv A outer s H E W hr
  exact (ss_cons (ss_set (i := 1) sc_law_asks.nd rfl (Or.inl rfl) (se_lst sa_nil))
    (ss_cons (ss_for (own_wish rfl rfl) rfl (si_seq (se_sl (se_var 0) (so_some se_int) (so_some se_int))) (sg_name (i := 2) sc_law_asks.nd rfl (Or.inl rfl)) (ss_cons (ss_set (i := 3) sc_law_asks.nd rfl (Or.inl rfl) (se_call G_law_stream Tk.wish (hr.mono (by decide)) rfl T.mg_law_stream T.fn_law_stream.kp T.b_law_stream .nil (sa_cons (se_var 2) (sa_cons se_int sa_nil))))
    (ss_cons (ss_set (i := 4) sc_law_asks.nd rfl (Or.inl rfl) (se_ix hr.units (se_lst (sa_cons se_str (sa_cons se_str (sa_cons se_str (sa_cons se_str sa_nil))))) (se_bin bs_mod (se_ix hr.units (se_var 3) se_int) se_int)))
    (ss_cons (ss_set (i := 5) sc_law_asks.nd rfl (Or.inl rfl) (se_ix hr.units (se_lst (sa_cons (se_bin bs_mod (se_ix hr.units (se_var 3) se_int) se_int) (sa_cons (se_bin bs_mod (se_var 2) (se_bin bs_pow se_int se_int)) (sa_cons (se_bin bs_sub se_int (se_bin bs_mod (se_ix hr.units (se_var 3) se_int) se_int)) sa_nil)))) (se_bin bs_mod (se_ix hr.units (se_var 3) se_int) se_int)))
    (ss_cons (ss_set (i := 6) sc_law_asks.nd rfl (Or.inl rfl) (se_tup (sa_cons (se_ix hr.units (se_lst (sa_cons se_str (sa_cons se_str sa_nil))) (se_bin bs_mod (se_ix hr.units (se_var 3) se_int) se_int)) (sa_cons (se_var 4) (sa_cons (se_var 5) sa_nil)))))
    (ss_cons (ss_if (st_cmp (bs_eq hr.units) (se_bin bs_mod (se_ix hr.units (se_var 3) se_int) se_int) se_int (nomark _)) (ss_one (ss_set (i := 6) sc_law_asks.nd rfl (Or.inl rfl) (se_tup (sa_cons se_str (sa_cons (se_var 4) (sa_cons (se_bin bs_mod (se_bin bs_div (se_ix hr.units (se_var 3) se_int) se_int) se_int) (sa_cons (se_var 5) sa_nil))))))) ss_nil)
    (ss_one (ss_expr (se_bm PySem.F.plainAttrs_list PySem.F.slot_list_append PySem.F.type_list_append ms_append (se_var 1) (sa_cons (se_tup (sa_cons (se_bin bs_sub (se_bin bs_mod (se_ix hr.units (se_var 3) se_int) se_int) se_int) (sa_cons (se_bin bs_mod (se_ix hr.units (se_var 3) se_int) se_int) (sa_cons (se_var 6) sa_nil)))) sa_nil))))))))))
    (ss_one (ss_ret (se_var 1)))))
set_option maxHeartbeats 0 in
theorem ok_law_cell_at (T : Txt K mg t) : FnOk P w K mg base (CXx P w) 1 t.f_law_cell_at t.d_law_cell_at ["_law_script", "_law_k"] (spS K (ctOf t) m_law_cell_at 2) := by
  show FnOk P w K mg base (CXx P w) (0 + 1) t.f_law_cell_at t.d_law_cell_at ["_law_script", "_law_k"] (spS K (ctOf t) (runF 2 b_law_cell_at) 2)
  refine fn_s (n := 2) (ar := 2) (k := 0) (b := b_law_cell_at) T.fn_law_cell_at sc_law_cell_at rfl rfl ?_
  intro cdv A outer s H E W hr
  exact (ss_cons (ss_if (st_cmp (bs_ltA hr.units) (se_var 1) (se_callB cs_len rfl T.m_len bt_len (sa_cons (se_var 0) sa_nil)) (nomark _)) (ss_one (ss_ret (se_ix hr.units (se_var 0) (se_var 1)))) ss_nil)
    (ss_one (ss_ret se_int)))
set_option maxHeartbeats 0 in
theorem ok_Shelf_init (T : Txt K mg t) : FnOk P w K mg base (CXx P w) 1 t.f_Shelf_init t.d_Shelf_init ["self"] (spS K (ctOf t) m_Shelf_init 1) := by
  show FnOk P w K mg base (CXx P w) (0 + 1) t.f_Shelf_init t.d_Shelf_init ["self"] (spS K (ctOf t) (runF 1 b_Shelf_init) 1)
  refine fn_s (n := 1) (ar := 1) (k := 0) (b := b_Shelf_init) T.fn_Shelf_init sc_Shelf_init rfl rfl ?_
  intro cdv A outer s H E W hr
  exact (ss_cons (ss_fld (cs := [0]) ⟨⟨T.cl_Shelf, T.na_Shelf_amounts⟩, True.intro⟩ (se_var 0) se_dnew)
    (ss_one (ss_fld (cs := [0]) ⟨⟨T.cl_Shelf, T.na_Shelf_answered⟩, True.intro⟩ (se_var 0) se_dnew)))
set_option maxHeartbeats 0 in
theorem ok_Shelf_value_of (T : Txt K mg t) : FnOk P w K mg base (CXx P w) 1 t.f_Shelf_value_of t.d_Shelf_value_of ["self", "name"] (spS K (ctOf t) m_Shelf_value_of 2) := by
  show FnOk P w K mg base (CXx P w) (0 + 1) t.f_Shelf_value_of t.d_Shelf_value_of ["self", "name"] (spS K (ctOf t) (runF 2 b_Shelf_value_of) 2)
  refine fn_s (n := 2) (ar := 2) (k := 0) (b := b_Shelf_value_of) T.fn_Shelf_value_of sc_Shelf_value_of rfl rfl ?_
  intro cdv A outer s H E W hr
  exact (ss_one (ss_ret (se_get2 hr.units (se_fld (cs := [0]) ⟨⟨T.cl_Shelf, T.na_Shelf_amounts⟩, True.intro⟩ (se_var 0)) (se_var 1) se_int)))
set_option maxHeartbeats 0 in
theorem ok_Shelf_obey (T : Txt K mg t) : FnOk P w K mg base (CXx P w) 2 t.f_Shelf_obey t.d_Shelf_obey ["self", "order"] (spS K (ctOf t) m_Shelf_obey 2) := by
  show FnOk P w K mg base (CXx P w) (1 + 1) t.f_Shelf_obey t.d_Shelf_obey ["self", "order"] (spS K (ctOf t) (runF 4 b_Shelf_obey) 2)
  have G_Shelf_value_of := ok_Shelf_value_of (P := P) (w := w) (base := base) T
  refine fn_s (n := 4) (ar := 2) (k := 1) (b := b_Shelf_obey) T.fn_Shelf_obey sc_Shelf_obey rfl rfl ?_
  intro cdv A outer s H E W hr
  exact (ss_cons (ss_set (i := 2) sc_Shelf_obey.nd rfl (Or.inl rfl) (se_ix hr.units (se_var 1) se_int))
    (ss_cons (ss_set (i := 3) sc_Shelf_obey.nd rfl (Or.inl rfl) (se_meth (kc := 0) (se_var 0) T.cl_Shelf T.me_Shelf_value_of G_Shelf_value_of Tk.wish (hr.mono (by decide)) T.b_Shelf_value_of .nil (sa_cons (se_var 2) sa_nil)))
    (ss_cons (ss_if (st_cmp (bs_eq hr.units) (se_ix hr.units (se_var 1) se_int) se_str (nomark _)) (ss_cons (ss_dset hr.units (se_fld (cs := [0]) ⟨⟨T.cl_Shelf, T.na_Shelf_amounts⟩, True.intro⟩ (se_var 0)) (se_var 2) (se_ix hr.units (se_var 1) se_int))
    (ss_one (ss_ret (se_var 3)))) ss_nil)
    (ss_cons (ss_if (st_cmp (bs_eq hr.units) (se_ix hr.units (se_var 1) se_int) se_str (nomark _)) (ss_cons (ss_dset hr.units (se_fld (cs := [0]) ⟨⟨T.cl_Shelf, T.na_Shelf_amounts⟩, True.intro⟩ (se_var 0)) (se_var 2) (se_bin bs_add (se_var 3) (se_ix hr.units (se_var 1) se_int)))
    (ss_one (ss_ret (se_bin bs_add (se_var 3) (se_ix hr.units (se_var 1) se_int))))) ss_nil)
    (ss_cons (ss_if (st_cmp (bs_ne hr.units) (se_var 3) (se_ix hr.units (se_var 1) se_int) (nomark _)) (ss_one (ss_ret se_int)) ss_nil)
    (ss_cons (ss_dset hr.units (se_fld (cs := [0]) ⟨⟨T.cl_Shelf, T.na_Shelf_amounts⟩, True.intro⟩ (se_var 0)) (se_var 2) (se_ix hr.units (se_var 1) se_int))
    (ss_one (ss_ret se_int))))))))
set_option maxHeartbeats 0 in
theorem ok_Shelf_do (T : Txt K mg t) : FnOk P w K mg base (CXx P w) 3 t.f_Shelf_do t.d_Shelf_do ["self", "who", "number", "order"] (spS K (ctOf t) m_Shelf_do 4) := by
  show FnOk P w K mg base (CXx P w) (2 + 1) t.f_Shelf_do t.d_Shelf_do ["self", "who", "number", "order"] (spS K (ctOf t) (runF 5 b_Shelf_do) 4)
  have G_Shelf_obey := ok_Shelf_obey (P := P) (w := w) (base := base) T
  refine fn_s (n := 5) (ar := 4) (k := 2) (b := b_Shelf_do) T.fn_Shelf_do sc_Shelf_do rfl rfl ?_
  intro cdv A outer s H E W hr
  exact (ss_cons (ss_set (i := 4) sc_Shelf_do.nd rfl (Or.inl rfl) (se_tup (sa_cons (se_var 1) (sa_cons (se_var 2) sa_nil))))
    (ss_cons (ss_if (st_cmp (bs_notin hr.units) (se_var 4) (se_fld (cs := [0]) ⟨⟨T.cl_Shelf, T.na_Shelf_answered⟩, True.intro⟩ (se_var 0)) (by with_unfolding_all rfl)) (ss_one (ss_dset hr.units (se_fld (cs := [0]) ⟨⟨T.cl_Shelf, T.na_Shelf_answered⟩, True.intro⟩ (se_var 0)) (se_var 4) (se_meth (kc := 0) (se_var 0) T.cl_Shelf T.me_Shelf_obey G_Shelf_obey Tk.wish (hr.mono (by decide)) T.b_Shelf_obey .nil (sa_cons (se_var 3) sa_nil)))) ss_nil)
    (ss_one (ss_ret (se_ix hr.units (se_fld (cs := [0]) ⟨⟨T.cl_Shelf, T.na_Shelf_answered⟩, True.intro⟩ (se_var 0)) (se_var 4))))))
set_option maxHeartbeats 0 in
theorem ok_law_done (T : Txt K mg t) : FnOk P w K mg base (CXx P w) 4 t.f_law_done t.d_law_done ["_law_shelf", "_law_asks_here"] (spS K (ctOf t) m_law_done 2) := by
  show FnOk P w K mg base (CXx P w) (3 + 1) t.f_law_done t.d_law_done ["_law_shelf", "_law_asks_here"] (spS K (ctOf t) (runF 2 b_law_done) 2)
  have G_Shelf_do := ok_Shelf_do (P := P) (w := w) (base := base) T
  refine fn_s (n := 2) (ar := 2) (k := 3) (b := b_law_done) T.fn_law_done sc_law_done rfl rfl ?_
  intro cdv A outer s H E W hr
  exact (ss_one (ss_ret (se_compT rfl ["_law_who", "_law_number", "_law_order"] ["_law_shelf"] [0] (si_seq (se_var 1)) ⟨⟨rfl, rfl, by first | exact .inl rfl | exact .inr rfl⟩, True.intro⟩ (fun _ _ _ _ _ => (sn_tup rfl (sns_cons (sn_name (i := 0) (show ((["_law_who", "_law_number", "_law_order"] : List Str) ++ (["_law_shelf"] : List Str)).Nodup from by decide +kernel) rfl (.inl (lookup_relabel_local rfl)) (by decide) (.inr (lookup_relabel_local rfl))) (sns_cons (sn_name (i := 1) (show ((["_law_who", "_law_number", "_law_order"] : List Str) ++ (["_law_shelf"] : List Str)).Nodup from by decide +kernel) rfl (.inl (lookup_relabel_local rfl)) (by decide) (.inr (lookup_relabel_local rfl))) (sns_cons (sn_name (i := 2) (show ((["_law_who", "_law_number", "_law_order"] : List Str) ++ (["_law_shelf"] : List Str)).Nodup from by decide +kernel) rfl (.inl (lookup_relabel_local rfl)) (by decide) (.inr (lookup_relabel_local rfl))) sns_nil))))) (fun _ _ _ _ _ => sts_nil) (fun _ _ _ _ _ => (se_meth (kc := 0) (se_var 3) T.cl_Shelf T.me_Shelf_do G_Shelf_do Tk.none (hr.mono (by decide)) T.b_Shelf_do .nil (sa_cons (se_var 0) (sa_cons (se_var 1) (sa_cons (se_var 2) sa_nil))))) (by decide +kernel) (by decide +kernel) (by decide +kernel))))
set_option maxHeartbeats 0 in
theorem ok_Shelf_told (T : Txt K mg t) : FnOk P w K mg base (CXx P w) 1 t.f_Shelf_told t.d_Shelf_told ["self"] (spS K (ctOf t) m_Shelf_told 1) := by
  show FnOk P w K mg base (CXx P w) (0 + 1) t.f_Shelf_told t.d_Shelf_told ["self"] (spS K (ctOf t) (runF 3 b_Shelf_told) 1)
  refine fn_s (n := 3) (ar := 1) (k := 0) (b := b_Shelf_told) T.fn_Shelf_told sc_Shelf_told rfl rfl ?_
  intro cdv A outer s H E W hr
  exact (ss_cons (ss_comp (k := 1) rfl [] [] sc_Shelf_told.nd rfl rfl (si_seq (se_sortedI rfl hr.units (se_fld (cs := [0]) ⟨⟨T.cl_Shelf, T.na_Shelf_amounts⟩, True.intro⟩ (se_var 0)) rfl T.m_sorted)) True.intro (fun _ _ _ _ _ => (sts_one (st_cmp (bs_ne hr.units) (se_ix hr.units (se_var 0) se_int) se_int (nomark _)))) (fun _ _ _ _ _ => (se_var 0)) (by decide +kernel) (by decide +kernel) (by decide +kernel) (by decide +kernel))
    (ss_cons (ss_compT (k := 2) rfl ["ask", "answer"] [] [] sc_Shelf_told.nd rfl rfl (si_seq (se_sortedI rfl hr.units (se_fld (cs := [0]) ⟨⟨T.cl_Shelf, T.na_Shelf_answered⟩, True.intro⟩ (se_var 0)) rfl T.m_sorted)) True.intro (fun _ _ _ _ _ => (sn_tup rfl (sns_cons (sn_name (i := 0) (show ((["ask", "answer"] : List Str) ++ ([] : List Str)).Nodup from by decide +kernel) rfl (.inl (lookup_relabel_local rfl)) (by decide) (.inr (lookup_relabel_local rfl))) (sns_cons (sn_name (i := 1) (show ((["ask", "answer"] : List Str) ++ ([] : List Str)).Nodup from by decide +kernel) rfl (.inl (lookup_relabel_local rfl)) (by decide) (.inr (lookup_relabel_local rfl))) sns_nil)))) (fun _ _ _ _ _ => sts_nil) (fun _ _ _ _ _ => (se_bin bs_add (se_var 0) (se_tup (sa_cons (se_var 1) sa_nil)))) (by decide +kernel) (by decide +kernel) (by decide +kernel))
    (ss_one (ss_ret (se_tup (sa_cons (se_callT cs_tuple rfl T.m_tuple bt_tuple (sa_cons (se_var 1) sa_nil)) (sa_cons (se_callT cs_tuple rfl T.m_tuple bt_tuple (sa_cons (se_var 2) sa_nil)) sa_nil)))))))
set_option maxHeartbeats 0 in
theorem ok_shelf_of (T : Txt K mg t) : FnOk P w K mg base (CXx P w) 3 t.f_shelf_of t.d_shelf_of ["told"] (spS K (ctOf t) m_shelf_of 1) := by
  show FnOk P w K mg base (CXx P w) (2 + 1) t.f_shelf_of t.d_shelf_of ["told"] (spS K (ctOf t) (runF 7 b_shelf_of) 1)
  have G_Shelf_init := ok_Shelf_init (P := P) (w := w) (base := base) T
  refine fn_s (n := 7) (ar := 1) (k := 2) (b := b_shelf_of) T.fn_shelf_of sc_shelf_of rfl rfl ?_
  intro cdv A outer s H E W hr
  exact (ss_cons (ss_set (i := 1) sc_shelf_of.nd rfl (Or.inl rfl) (se_make0 (kc := 0) T.mk_Shelf G_Shelf_init Tk.wish (hr.mono (by decide)) rfl T.mg_Shelf T.b_Shelf_init .nil))
    (ss_cons (ss_for (own_wish rfl rfl) rfl (si_seq (se_ix hr.units (se_var 0) se_int)) (sg_tup rfl (sgs_cons (sg_name (i := 2) sc_shelf_of.nd rfl (Or.inl rfl)) (sgs_cons (sg_name (i := 3) sc_shelf_of.nd rfl (Or.inl rfl)) sgs_nil))) (ss_one (ss_dset hr.units (se_fld (cs := [0]) ⟨⟨T.cl_Shelf, T.na_Shelf_amounts⟩, True.intro⟩ (se_var 1)) (se_var 2) (se_var 3))))
    (ss_cons (ss_for (own_wish rfl rfl) rfl (si_seq (se_ix hr.units (se_var 0) se_int)) (sg_tup rfl (sgs_cons (sg_name (i := 4) sc_shelf_of.nd rfl (Or.inl rfl)) (sgs_cons (sg_name (i := 5) sc_shelf_of.nd rfl (Or.inl rfl)) (sgs_cons (sg_name (i := 6) sc_shelf_of.nd rfl (Or.inl rfl)) sgs_nil)))) (ss_one (ss_dset hr.units (se_fld (cs := [0]) ⟨⟨T.cl_Shelf, T.na_Shelf_answered⟩, True.intro⟩ (se_var 1)) (se_tup (sa_cons (se_var 4) (sa_cons (se_var 5) sa_nil))) (se_var 6))))
    (ss_one (ss_ret (se_var 1))))))
set_option maxHeartbeats 0 in
theorem ok_law_firsts (T : Txt K mg t) : FnOk P w K mg base (CXx P w) 1 t.f_law_firsts t.d_law_firsts ["_law_asks_here"] (spS K (ctOf t) m_law_firsts 1) := by
  show FnOk P w K mg base (CXx P w) (0 + 1) t.f_law_firsts t.d_law_firsts ["_law_asks_here"] (spS K (ctOf t) (runF 4 b_law_firsts) 1)
  refine fn_s (n := 4) (ar := 1) (k := 0) (b := b_law_firsts) T.fn_law_firsts sc_law_firsts rfl rfl ?_
  intro cdv A outer s H E W hr
  exact (ss_cons (ss_set (i := 1) sc_law_firsts.nd rfl (Or.inl rfl) se_dnew)
    (ss_cons (ss_set (i := 2) sc_law_firsts.nd rfl (Or.inl rfl) (se_lst sa_nil))
    (ss_cons (ss_for (own_wish rfl rfl) rfl (si_seq (se_var 0)) (sg_name (i := 3) sc_law_firsts.nd rfl (Or.inl rfl)) (ss_one (ss_if (st_cmp (bs_notin hr.units) (se_tup (sa_cons (se_ix hr.units (se_var 3) se_int) (sa_cons (se_ix hr.units (se_var 3) se_int) sa_nil))) (se_var 1) (by with_unfolding_all rfl)) (ss_cons (ss_dset hr.units (se_var 1) (se_tup (sa_cons (se_ix hr.units (se_var 3) se_int) (sa_cons (se_ix hr.units (se_var 3) se_int) sa_nil))) se_bl)
    (ss_one (ss_expr (se_bm PySem.F.plainAttrs_list PySem.F.slot_list_append PySem.F.type_list_append ms_append (se_var 2) (sa_cons (se_var 3) sa_nil))))) ss_nil)))
    (ss_one (ss_ret (se_var 2))))))
set_option maxHeartbeats 0 in
theorem ok_law (T : Txt K mg t) : FnOk P w K mg base (CXx P w) 5 t.f_law t.d_law ["_law_script"] (spS K (ctOf t) m_law 1) := by
  show FnOk P w K mg base (CXx P w) (4 + 1) t.f_law t.d_law ["_law_script"] (spS K (ctOf t) (runF 16 b_law) 1)
  have G_law_asks := ok_law_asks (P := P) (w := w) (base := base) T
  have G_law_stream := ok_law_stream (P := P) (w := w) (base := base) T
  have G_law_cell_at := ok_law_cell_at (P := P) (w := w) (base := base) T
  have G_Shelf_init := ok_Shelf_init (P := P) (w := w) (base := base) T
  have G_law_done := ok_law_done (P := P) (w := w) (base := base) T
  have G_Shelf_told := ok_Shelf_told (P := P) (w := w) (base := base) T
  have G_shelf_of := ok_shelf_of (P := P) (w := w) (base := base) T
  have G_law_firsts := ok_law_firsts (P := P) (w := w) (base := base) T
  refine fn_s (n := 16) (ar := 1) (k := 4) (b := b_law) T.fn_law sc_law rfl rfl ?_
  intro cdv A outer s H E W hr
  exact (ss_cons (ss_set (i := 1) sc_law.nd rfl (Or.inl rfl) (se_call G_law_asks Tk.wish (hr.mono (by decide)) rfl T.mg_law_asks T.fn_law_asks.kp T.b_law_asks .nil (sa_cons (se_var 0) sa_nil)))
    (ss_cons (ss_set (i := 2) sc_law.nd rfl (Or.inl rfl) (se_call G_law_stream Tk.wish (hr.mono (by decide)) rfl T.mg_law_stream T.fn_law_stream.kp T.b_law_stream .nil (sa_cons (se_call G_law_cell_at Tk.wish (hr.mono (by decide)) rfl T.mg_law_cell_at T.fn_law_cell_at.kp T.b_law_cell_at .nil (sa_cons (se_var 0) (sa_cons se_int sa_nil))) (sa_cons se_int sa_nil))))
    (ss_cons (ss_set (i := 3) sc_law.nd rfl (Or.inl rfl) (se_bin bs_mod (se_ix hr.units (se_var 2) se_int) (se_bin bs_add (se_callB cs_len rfl T.m_len bt_len (sa_cons (se_var 1) sa_nil)) se_int)))
    (ss_cons (ss_set (i := 4) sc_law.nd rfl (Or.inl rfl) (se_make0 (kc := 0) T.mk_Shelf G_Shelf_init Tk.wish (hr.mono (by decide)) rfl T.mg_Shelf T.b_Shelf_init .nil))
    (ss_cons (ss_set (i := 5) sc_law.nd rfl (Or.inl rfl) (se_call G_law_done Tk.wish (hr.mono (by decide)) rfl T.mg_law_done T.fn_law_done.kp T.b_law_done .nil (sa_cons (se_var 4) (sa_cons (se_var 1) sa_nil))))
    (ss_cons (ss_set (i := 6) sc_law.nd rfl (Or.inl rfl) (se_meth0 (kc := 0) (se_var 4) T.cl_Shelf T.me_Shelf_told G_Shelf_told Tk.wish (hr.mono (by decide)) T.b_Shelf_told .nil))
    (ss_cons (ss_set (i := 7) sc_law.nd rfl (Or.inl rfl) (se_make0 (kc := 0) T.mk_Shelf G_Shelf_init Tk.wish (hr.mono (by decide)) rfl T.mg_Shelf T.b_Shelf_init .nil))
    (ss_cons (ss_set (i := 8) sc_law.nd rfl (Or.inl rfl) (se_call G_law_done Tk.wish (hr.mono (by decide)) rfl T.mg_law_done T.fn_law_done.kp T.b_law_done .nil (sa_cons (se_var 7) (sa_cons (se_sl (se_var 1) so_none (so_some (se_var 3))) sa_nil))))
    (ss_cons (ss_set (i := 9) sc_law.nd rfl (Or.inl rfl) (se_call G_shelf_of Tk.wish (hr.mono (by decide)) rfl T.mg_shelf_of T.fn_shelf_of.kp T.b_shelf_of .nil (sa_cons (se_meth0 (kc := 0) (se_var 7) T.cl_Shelf T.me_Shelf_told G_Shelf_told Tk.wish (hr.mono (by decide)) T.b_Shelf_told .nil) sa_nil)))
    (ss_cons (ss_set (i := 8) sc_law.nd rfl (Or.inl rfl) (se_bin bs_add (se_var 8) (se_call G_law_done Tk.wish (hr.mono (by decide)) rfl T.mg_law_done T.fn_law_done.kp T.b_law_done .nil (sa_cons (se_var 9) (sa_cons (se_sl (se_var 1) (so_some (se_var 3)) so_none) sa_nil)))))
    (ss_cons (ss_if (SW.pt (sw_or (st_cmp (bs_ne hr.units) (se_var 8) (se_var 5) (nomark _)) (sw_or1 (st_cmp (bs_ne hr.units) (se_meth0 (kc := 0) (se_var 9) T.cl_Shelf T.me_Shelf_told G_Shelf_told Tk.wish (hr.mono (by decide)) T.b_Shelf_told .nil) (se_var 6) (nomark _))))) (ss_one (ss_ret se_bl)) ss_nil)
    (ss_cons (ss_set (i := 10) sc_law.nd rfl (Or.inl rfl) (se_call G_law_firsts Tk.wish (hr.mono (by decide)) rfl T.mg_law_firsts T.fn_law_firsts.kp T.b_law_firsts .nil (sa_cons (se_var 1) sa_nil)))
    (ss_cons (ss_set (i := 11) sc_law.nd rfl (Or.inl rfl) (se_make0 (kc := 0) T.mk_Shelf G_Shelf_init Tk.wish (hr.mono (by decide)) rfl T.mg_Shelf T.b_Shelf_init .nil))
    (ss_cons (ss_expr (se_call G_law_done Tk.wish (hr.mono (by decide)) rfl T.mg_law_done T.fn_law_done.kp T.b_law_done .nil (sa_cons (se_var 11) (sa_cons (se_var 10) sa_nil))))
    (ss_cons (ss_if (SW.pt (sw_or (st_cmp (bs_ne hr.units) (se_meth0 (kc := 0) (se_var 11) T.cl_Shelf T.me_Shelf_told G_Shelf_told Tk.wish (hr.mono (by decide)) T.b_Shelf_told .nil) (se_var 6) (nomark _)) (sw_or1 (st_cmp (bs_ne hr.units) (se_callB cs_len rfl T.m_len bt_len (sa_cons (se_ix hr.units (se_var 6) se_int) sa_nil)) (se_callB cs_len rfl T.m_len bt_len (sa_cons (se_var 10) sa_nil)) (nomark _))))) (ss_one (ss_ret se_bl)) ss_nil)
    (ss_cons (ss_set (i := 12) sc_law.nd rfl (Or.inl rfl) (se_lst (sa_cons se_str (sa_cons se_str (sa_cons se_str (sa_cons se_str sa_nil))))))
    (ss_cons (ss_set (i := 13) sc_law.nd rfl (Or.inl rfl) (se_make0 (kc := 0) T.mk_Shelf G_Shelf_init Tk.wish (hr.mono (by decide)) rfl T.mg_Shelf T.b_Shelf_init .nil))
    (ss_cons (ss_for (own_wish rfl rfl) rfl (si_range1 rfl T.m_range (sa_cons se_int sa_nil)) (sg_name (i := 14) sc_law.nd rfl (Or.inl rfl)) (ss_cons (ss_set (i := 15) sc_law.nd rfl (Or.inr rfl) (se_ix hr.units (se_var 12) (se_bin bs_mod (se_bin bs_add (se_ix hr.units (se_var 2) se_int) (se_bin bs_mul (se_bin bs_add se_int (se_bin bs_mul (se_bin bs_mod (se_bin bs_div (se_ix hr.units (se_var 2) se_int) se_int) se_int) se_int)) (se_var 14))) se_int)))
    (ss_one (ss_expr (se_call G_law_done Tk.wish (hr.mono (by decide)) rfl T.mg_law_done T.fn_law_done.kp T.b_law_done .nil (sa_cons (se_var 13) (sa_cons (se_comp rfl ["_law_name"] [15] (si_seq (se_var 10)) ⟨⟨rfl, rfl, by first | exact .inl rfl | exact .inr rfl⟩, True.intro⟩ (fun _ _ _ _ _ => (sts_one (st_cmp (bs_eq hr.units) (se_ix hr.units (se_ix hr.units (se_var 0) se_int) se_int) (se_var 1) (nomark _)))) (fun _ _ _ _ _ => (se_var 0)) (by decide +kernel) (by decide +kernel) (by decide +kernel) (by decide +kernel)) sa_nil)))))))
    (ss_one (ss_ret (se_and (se_cmp (bs_eq hr.units) (se_meth0 (kc := 0) (se_var 13) T.cl_Shelf T.me_Shelf_told G_Shelf_told Tk.wish (hr.mono (by decide)) T.b_Shelf_told .nil) (se_var 6) (nomark _)) (se_one (se_cmp (bs_eq hr.units) (se_call G_law_done Tk.wish (hr.mono (by decide)) rfl T.mg_law_done T.fn_law_done.kp T.b_law_done .nil (sa_cons (se_var 13) (sa_cons (se_var 1) sa_nil))) (se_var 5) (nomark _))))))))))))))))))))))))
theorem law_binds (T : Txt K mg t) (s : Shared) (u : Value) : BindsTo s t.d_law ⟨[u], []⟩ [("_law_script", u)] := by
  obtain ⟨oc, od, kV, doc, pm, an, cdv, ct, osl, e, _⟩ := T.fn_law.ex
  rw [e]
  exact .of_eq rfl
theorem ok_lawL (T : Txt K mg t) : FnOk P w K mg base CX0 5 t.f_law t.d_law ["_law_script"] (spL K) := law_s (ok_law T) law_ok
end
theorem all_mk {K : PySem.W.Frag} {h : Heap} {mg : Str → Option Value} (X : K.In h) (G : h.Ns mainGlobals mg)
    {C_Shelf : Addr}
    {f0 : Addr} {oc0 : Value} {od0 : Option Addr} {kV0 dc0 pm0 : Value} {an0 : Option Addr} {cd0 ct0 : Value} {sl0 : Array (Option Value)}
    {f1 : Addr} {oc1 : Value} {od1 : Option Addr} {kV1 dc1 pm1 : Value} {an1 : Option Addr} {cd1 ct1 : Value} {sl1 : Array (Option Value)}
    {f2 : Addr} {oc2 : Value} {od2 : Option Addr} {kV2 dc2 pm2 : Value} {an2 : Option Addr} {cd2 ct2 : Value} {sl2 : Array (Option Value)}
    {f3 : Addr} {oc3 : Value} {od3 : Option Addr} {kV3 dc3 pm3 : Value} {an3 : Option Addr} {cd3 ct3 : Value} {sl3 : Array (Option Value)}
    {f4 : Addr} {oc4 : Value} {od4 : Option Addr} {kV4 dc4 pm4 : Value} {an4 : Option Addr} {cd4 ct4 : Value} {sl4 : Array (Option Value)}
    {f5 : Addr} {oc5 : Value} {od5 : Option Addr} {kV5 dc5 pm5 : Value} {an5 : Option Addr} {cd5 ct5 : Value} {sl5 : Array (Option Value)}
    {f6 : Addr} {oc6 : Value} {od6 : Option Addr} {kV6 dc6 pm6 : Value} {an6 : Option Addr} {cd6 ct6 : Value} {sl6 : Array (Option Value)}
    {f7 : Addr} {oc7 : Value} {od7 : Option Addr} {kV7 dc7 pm7 : Value} {an7 : Option Addr} {cd7 ct7 : Value} {sl7 : Array (Option Value)}
    {f8 : Addr} {oc8 : Value} {od8 : Option Addr} {kV8 dc8 pm8 : Value} {an8 : Option Addr} {cd8 ct8 : Value} {sl8 : Array (Option Value)}
    {f9 : Addr} {oc9 : Value} {od9 : Option Addr} {kV9 dc9 pm9 : Value} {an9 : Option Addr} {cd9 ct9 : Value} {sl9 : Array (Option Value)}
    {f10 : Addr} {oc10 : Value} {od10 : Option Addr} {kV10 dc10 pm10 : Value} {an10 : Option Addr} {cd10 ct10 : Value} {sl10 : Array (Option Value)}
    {f11 : Addr} {oc11 : Value} {od11 : Option Addr} {kV11 dc11 pm11 : Value} {an11 : Option Addr} {cd11 ct11 : Value} {sl11 : Array (Option Value)}
    (aC_Shelf : PySem.W.nsIn K mainGlobals "Shelf" = some (some (.ref C_Shelf)))
    (a0 : PySem.W.nsIn K mainGlobals "_law_stream" = some (some (.ref f0)))
    (l0 : K.lookup f0 = some ⟨oc0, od0, .func (PySem.W.fnOf "_law_stream" "_law_stream" (defArgs s_law_stream) (defBody s_law_stream) (defScope s_law_stream) .none kV0 dc0 pm0 an0 cd0 ct0), sl0⟩)
    (c0 : PySem.W.codeIn K cd0 "_law_stream" = true)
    (k0 : PySem.W.keepIn K (.ref f0) = true)
    (a1 : PySem.W.nsIn K mainGlobals "_law_asks" = some (some (.ref f1)))
    (l1 : K.lookup f1 = some ⟨oc1, od1, .func (PySem.W.fnOf "_law_asks" "_law_asks" (defArgs s_law_asks) (defBody s_law_asks) (defScope s_law_asks) .none kV1 dc1 pm1 an1 cd1 ct1), sl1⟩)
    (c1 : PySem.W.codeIn K cd1 "_law_asks" = true)
    (k1 : PySem.W.keepIn K (.ref f1) = true)
    (a2 : PySem.W.nsIn K mainGlobals "_law_cell_at" = some (some (.ref f2)))
    (l2 : K.lookup f2 = some ⟨oc2, od2, .func (PySem.W.fnOf "_law_cell_at" "_law_cell_at" (defArgs s_law_cell_at) (defBody s_law_cell_at) (defScope s_law_cell_at) .none kV2 dc2 pm2 an2 cd2 ct2), sl2⟩)
    (c2 : PySem.W.codeIn K cd2 "_law_cell_at" = true)
    (k2 : PySem.W.keepIn K (.ref f2) = true)
    (a3 : PySem.W.findIn K (.ref C_Shelf) "__init__" = some (some (.ref f3)))
    (i3 : PySem.W.isFn K (.ref f3) = true)
    (l3 : K.lookup f3 = some ⟨oc3, od3, .func (PySem.W.fnOf "__init__" "Shelf.__init__" (defArgs s_Shelf_init) (defBody s_Shelf_init) (defScope s_Shelf_init) .none kV3 dc3 pm3 an3 cd3 ct3), sl3⟩)
    (c3 : PySem.W.codeIn K cd3 "Shelf.__init__" = true)
    (k3 : PySem.W.keepIn K (.ref f3) = true)
    (a4 : PySem.W.findIn K (.ref C_Shelf) "value_of" = some (some (.ref f4)))
    (i4 : PySem.W.isFn K (.ref f4) = true)
    (l4 : K.lookup f4 = some ⟨oc4, od4, .func (PySem.W.fnOf "value_of" "Shelf.value_of" (defArgs s_Shelf_value_of) (defBody s_Shelf_value_of) (defScope s_Shelf_value_of) .none kV4 dc4 pm4 an4 cd4 ct4), sl4⟩)
    (c4 : PySem.W.codeIn K cd4 "Shelf.value_of" = true)
    (k4 : PySem.W.keepIn K (.ref f4) = true)
    (a5 : PySem.W.findIn K (.ref C_Shelf) "obey" = some (some (.ref f5)))
    (i5 : PySem.W.isFn K (.ref f5) = true)
    (l5 : K.lookup f5 = some ⟨oc5, od5, .func (PySem.W.fnOf "obey" "Shelf.obey" (defArgs s_Shelf_obey) (defBody s_Shelf_obey) (defScope s_Shelf_obey) .none kV5 dc5 pm5 an5 cd5 ct5), sl5⟩)
    (c5 : PySem.W.codeIn K cd5 "Shelf.obey" = true)
    (k5 : PySem.W.keepIn K (.ref f5) = true)
    (a6 : PySem.W.findIn K (.ref C_Shelf) "do" = some (some (.ref f6)))
    (i6 : PySem.W.isFn K (.ref f6) = true)
    (l6 : K.lookup f6 = some ⟨oc6, od6, .func (PySem.W.fnOf "do" "Shelf.do" (defArgs s_Shelf_do) (defBody s_Shelf_do) (defScope s_Shelf_do) .none kV6 dc6 pm6 an6 cd6 ct6), sl6⟩)
    (c6 : PySem.W.codeIn K cd6 "Shelf.do" = true)
    (k6 : PySem.W.keepIn K (.ref f6) = true)
    (a7 : PySem.W.nsIn K mainGlobals "_law_done" = some (some (.ref f7)))
    (l7 : K.lookup f7 = some ⟨oc7, od7, .func (PySem.W.fnOf "_law_done" "_law_done" (defArgs s_law_done) (defBody s_law_done) (defScope s_law_done) .none kV7 dc7 pm7 an7 cd7 ct7), sl7⟩)
    (c7 : PySem.W.codeIn K cd7 "_law_done" = true)
    (k7 : PySem.W.keepIn K (.ref f7) = true)
    (a8 : PySem.W.findIn K (.ref C_Shelf) "told" = some (some (.ref f8)))
    (i8 : PySem.W.isFn K (.ref f8) = true)
    (l8 : K.lookup f8 = some ⟨oc8, od8, .func (PySem.W.fnOf "told" "Shelf.told" (defArgs s_Shelf_told) (defBody s_Shelf_told) (defScope s_Shelf_told) .none kV8 dc8 pm8 an8 cd8 ct8), sl8⟩)
    (c8 : PySem.W.codeIn K cd8 "Shelf.told" = true)
    (k8 : PySem.W.keepIn K (.ref f8) = true)
    (a9 : PySem.W.nsIn K mainGlobals "shelf_of" = some (some (.ref f9)))
    (l9 : K.lookup f9 = some ⟨oc9, od9, .func (PySem.W.fnOf "shelf_of" "shelf_of" (defArgs s_shelf_of) (defBody s_shelf_of) (defScope s_shelf_of) .none kV9 dc9 pm9 an9 cd9 ct9), sl9⟩)
    (c9 : PySem.W.codeIn K cd9 "shelf_of" = true)
    (k9 : PySem.W.keepIn K (.ref f9) = true)
    (a10 : PySem.W.nsIn K mainGlobals "_law_firsts" = some (some (.ref f10)))
    (l10 : K.lookup f10 = some ⟨oc10, od10, .func (PySem.W.fnOf "_law_firsts" "_law_firsts" (defArgs s_law_firsts) (defBody s_law_firsts) (defScope s_law_firsts) .none kV10 dc10 pm10 an10 cd10 ct10), sl10⟩)
    (c10 : PySem.W.codeIn K cd10 "_law_firsts" = true)
    (k10 : PySem.W.keepIn K (.ref f10) = true)
    (a11 : PySem.W.nsIn K mainGlobals "law" = some (some (.ref f11)))
    (l11 : K.lookup f11 = some ⟨oc11, od11, .func (PySem.W.fnOf "law" "law" (defArgs s_law) (defBody s_law) (defScope s_law) .none kV11 dc11 pm11 an11 cd11 ct11), sl11⟩)
    (c11 : PySem.W.codeIn K cd11 "law" = true)
    (k11 : PySem.W.keepIn K (.ref f11) = true)
    (pg_Shelf : PySem.W.plainGet K C_Shelf Str.empty = true)
    (hd_Shelf : PySem.W.hasDictIn K C_Shelf = true)
    (po_Shelf : PySem.W.plainOver K C_Shelf = true)
    (sa_Shelf : PySem.W.findIn K (.ref C_Shelf) "__setattr__" = some (some (.builtin "object.__setattr__")))
    (mk_Shelf : PySem.W.makesIn K C_Shelf = true)
    (kc_Shelf : PySem.W.keepIn K (.ref C_Shelf) = true)
    (na_Shelf_amounts : PySem.W.findIn K (.ref C_Shelf) "amounts" = some none)
    (na_Shelf_answered : PySem.W.findIn K (.ref C_Shelf) "answered" = some none)
    (z_len : PySem.W.nsIn K mainGlobals "len" = some none)
    (z_range : PySem.W.nsIn K mainGlobals "range" = some none)
    (z_sorted : PySem.W.nsIn K mainGlobals "sorted" = some none)
    (z_tuple : PySem.W.nsIn K mainGlobals "tuple" = some none) :
    ∃ t, Txt K mg t :=
  ⟨{ c_Shelf := C_Shelf,
      f_law_stream := f0, d_law_stream := PySem.W.fnOf "_law_stream" "_law_stream" (defArgs s_law_stream) (defBody s_law_stream) (defScope s_law_stream) .none kV0 dc0 pm0 an0 cd0 ct0,
      f_law_asks := f1, d_law_asks := PySem.W.fnOf "_law_asks" "_law_asks" (defArgs s_law_asks) (defBody s_law_asks) (defScope s_law_asks) .none kV1 dc1 pm1 an1 cd1 ct1,
      f_law_cell_at := f2, d_law_cell_at := PySem.W.fnOf "_law_cell_at" "_law_cell_at" (defArgs s_law_cell_at) (defBody s_law_cell_at) (defScope s_law_cell_at) .none kV2 dc2 pm2 an2 cd2 ct2,
      f_Shelf_init := f3, d_Shelf_init := PySem.W.fnOf "__init__" "Shelf.__init__" (defArgs s_Shelf_init) (defBody s_Shelf_init) (defScope s_Shelf_init) .none kV3 dc3 pm3 an3 cd3 ct3,
      f_Shelf_value_of := f4, d_Shelf_value_of := PySem.W.fnOf "value_of" "Shelf.value_of" (defArgs s_Shelf_value_of) (defBody s_Shelf_value_of) (defScope s_Shelf_value_of) .none kV4 dc4 pm4 an4 cd4 ct4,
      f_Shelf_obey := f5, d_Shelf_obey := PySem.W.fnOf "obey" "Shelf.obey" (defArgs s_Shelf_obey) (defBody s_Shelf_obey) (defScope s_Shelf_obey) .none kV5 dc5 pm5 an5 cd5 ct5,
      f_Shelf_do := f6, d_Shelf_do := PySem.W.fnOf "do" "Shelf.do" (defArgs s_Shelf_do) (defBody s_Shelf_do) (defScope s_Shelf_do) .none kV6 dc6 pm6 an6 cd6 ct6,
      f_law_done := f7, d_law_done := PySem.W.fnOf "_law_done" "_law_done" (defArgs s_law_done) (defBody s_law_done) (defScope s_law_done) .none kV7 dc7 pm7 an7 cd7 ct7,
      f_Shelf_told := f8, d_Shelf_told := PySem.W.fnOf "told" "Shelf.told" (defArgs s_Shelf_told) (defBody s_Shelf_told) (defScope s_Shelf_told) .none kV8 dc8 pm8 an8 cd8 ct8,
      f_shelf_of := f9, d_shelf_of := PySem.W.fnOf "shelf_of" "shelf_of" (defArgs s_shelf_of) (defBody s_shelf_of) (defScope s_shelf_of) .none kV9 dc9 pm9 an9 cd9 ct9,
      f_law_firsts := f10, d_law_firsts := PySem.W.fnOf "_law_firsts" "_law_firsts" (defArgs s_law_firsts) (defBody s_law_firsts) (defScope s_law_firsts) .none kV10 dc10 pm10 an10 cd10 ct10,
      f_law := f11, d_law := PySem.W.fnOf "law" "law" (defArgs s_law) (defBody s_law) (defScope s_law) .none kV11 dc11 pm11 an11 cd11 ct11 },
   { fn_law_stream := fund_mk l0 c0 k0,
      b_law_stream := (fund_mk l0 c0 k0 : FunD K _ _ s_law_stream .none _ _).binds (ps := ["_law_cell", "_law_size"]) fun _ _ _ _ _ _ us hl => match us, hl with | [_, _], _ => rfl,
      mg_law_stream := PySem.W.mg_of X G a0,
      fn_law_asks := fund_mk l1 c1 k1,
      b_law_asks := (fund_mk l1 c1 k1 : FunD K _ _ s_law_asks .none _ _).binds (ps := ["_law_script"]) fun _ _ _ _ _ _ us hl => match us, hl with | [_], _ => rfl,
      mg_law_asks := PySem.W.mg_of X G a1,
      fn_law_cell_at := fund_mk l2 c2 k2,
      b_law_cell_at := (fund_mk l2 c2 k2 : FunD K _ _ s_law_cell_at .none _ _).binds (ps := ["_law_script", "_law_k"]) fun _ _ _ _ _ _ us hl => match us, hl with | [_, _], _ => rfl,
      mg_law_cell_at := PySem.W.mg_of X G a2,
      fn_Shelf_init := fund_mk l3 c3 k3,
      b_Shelf_init := (fund_mk l3 c3 k3 : FunD K _ _ s_Shelf_init .none _ _).binds (ps := ["self"]) fun _ _ _ _ _ _ us hl => match us, hl with | [_], _ => rfl,
      mk_Shelf := ⟨mk_Shelf, a3, i3, kc_Shelf⟩,
      fn_Shelf_value_of := fund_mk l4 c4 k4,
      b_Shelf_value_of := (fund_mk l4 c4 k4 : FunD K _ _ s_Shelf_value_of .none _ _).binds (ps := ["self", "name"]) fun _ _ _ _ _ _ us hl => match us, hl with | [_, _], _ => rfl,
      me_Shelf_value_of := ⟨a4, i4, k4⟩,
      fn_Shelf_obey := fund_mk l5 c5 k5,
      b_Shelf_obey := (fund_mk l5 c5 k5 : FunD K _ _ s_Shelf_obey .none _ _).binds (ps := ["self", "order"]) fun _ _ _ _ _ _ us hl => match us, hl with | [_, _], _ => rfl,
      me_Shelf_obey := ⟨a5, i5, k5⟩,
      fn_Shelf_do := fund_mk l6 c6 k6,
      b_Shelf_do := (fund_mk l6 c6 k6 : FunD K _ _ s_Shelf_do .none _ _).binds (ps := ["self", "who", "number", "order"]) fun _ _ _ _ _ _ us hl => match us, hl with | [_, _, _, _], _ => rfl,
      me_Shelf_do := ⟨a6, i6, k6⟩,
      fn_law_done := fund_mk l7 c7 k7,
      b_law_done := (fund_mk l7 c7 k7 : FunD K _ _ s_law_done .none _ _).binds (ps := ["_law_shelf", "_law_asks_here"]) fun _ _ _ _ _ _ us hl => match us, hl with | [_, _], _ => rfl,
      mg_law_done := PySem.W.mg_of X G a7,
      fn_Shelf_told := fund_mk l8 c8 k8,
      b_Shelf_told := (fund_mk l8 c8 k8 : FunD K _ _ s_Shelf_told .none _ _).binds (ps := ["self"]) fun _ _ _ _ _ _ us hl => match us, hl with | [_], _ => rfl,
      me_Shelf_told := ⟨a8, i8, k8⟩,
      fn_shelf_of := fund_mk l9 c9 k9,
      b_shelf_of := (fund_mk l9 c9 k9 : FunD K _ _ s_shelf_of .none _ _).binds (ps := ["told"]) fun _ _ _ _ _ _ us hl => match us, hl with | [_], _ => rfl,
      mg_shelf_of := PySem.W.mg_of X G a9,
      fn_law_firsts := fund_mk l10 c10 k10,
      b_law_firsts := (fund_mk l10 c10 k10 : FunD K _ _ s_law_firsts .none _ _).binds (ps := ["_law_asks_here"]) fun _ _ _ _ _ _ us hl => match us, hl with | [_], _ => rfl,
      mg_law_firsts := PySem.W.mg_of X G a10,
      fn_law := fund_mk l11 c11 k11,
      b_law := (fund_mk l11 c11 k11 : FunD K _ _ s_law .none _ _).binds (ps := ["_law_script"]) fun _ _ _ _ _ _ us hl => match us, hl with | [_], _ => rfl,
      mg_law := PySem.W.mg_of X G a11,
      cl_Shelf := ⟨pg_Shelf, hd_Shelf, po_Shelf, sa_Shelf⟩,
      mg_Shelf := PySem.W.mg_of X G aC_Shelf,
      na_Shelf_amounts := na_Shelf_amounts,
      na_Shelf_answered := na_Shelf_answered,
      m_len := PySem.W.mg_none_of X G z_len,
      m_range := PySem.W.mg_none_of X G z_range,
      m_sorted := PySem.W.mg_none_of X G z_sorted,
      m_tuple := PySem.W.mg_none_of X G z_tuple }⟩
end My
open PySem PySem.W PyProof.Rows
set_option maxRecDepth 100000 in
set_option maxHeartbeats 0 in
theorem PySem.Challenge.cw_chairvote_k14_whole_shelves_agree_holds : PySem.Challenge.rw_chairvote_k14_whole_shelves_agree.Holds := by
  w_on; o_law; k_head; (case hw => w_witness2)
  k_fill
  refine S.walkS (l := PySem.Challenge.rw_chairvote_k14_whole_shelves_agree) (x := "_law_script") (k := 5) rfl rfl ⟨rfl, by decide, by decide⟩ (fun w h Y => PySem.W.kIn_of Y) ?F
  case F =>
    intro w mg fa h KX G hmg
    have T : ∃ t, My.Txt (L2.KOf KX) mg t := by
      dsimp only [L2.KOf]
      refine' My.all_mk KX G ?aC_Shelf ?a0 ?l0 ?c0 ?k0 ?a1 ?l1 ?c1 ?k1 ?a2 ?l2 ?c2 ?k2 ?a3 ?i3 ?l3 ?c3 ?k3 ?a4 ?i4 ?l4 ?c4 ?k4 ?a5 ?i5 ?l5 ?c5 ?k5 ?a6 ?i6 ?l6 ?c6 ?k6 ?a7 ?l7 ?c7 ?k7 ?a8 ?i8 ?l8 ?c8 ?k8 ?a9 ?l9 ?c9 ?k9 ?a10 ?l10 ?c10 ?k10 ?a11 ?l11 ?c11 ?k11 ?pg_Shelf ?hd_Shelf ?po_Shelf ?sa_Shelf ?mk_Shelf ?kc_Shelf ?na_Shelf_amounts ?na_Shelf_answered ?z_len ?z_range ?z_sorted ?z_tuple
      (case aC_Shelf => k_is)
      (case a0 => k_is)
      (case l0 => k_is)
      (case c0 => k_is)
      (case k0 => k_is)
      (case a1 => k_is)
      (case l1 => k_is)
      (case c1 => k_is)
      (case k1 => k_is)
      (case a2 => k_is)
      (case l2 => k_is)
      (case c2 => k_is)
      (case k2 => k_is)
      (case a3 => k_is)
      (case i3 => k_is)
      (case l3 => k_is)
      (case c3 => k_is)
      (case k3 => k_is)
      (case a4 => k_is)
      (case i4 => k_is)
      (case l4 => k_is)
      (case c4 => k_is)
      (case k4 => k_is)
      (case a5 => k_is)
      (case i5 => k_is)
      (case l5 => k_is)
      (case c5 => k_is)
      (case k5 => k_is)
      (case a6 => k_is)
      (case i6 => k_is)
      (case l6 => k_is)
      (case c6 => k_is)
      (case k6 => k_is)
      (case a7 => k_is)
      (case l7 => k_is)
      (case c7 => k_is)
      (case k7 => k_is)
      (case a8 => k_is)
      (case i8 => k_is)
      (case l8 => k_is)
      (case c8 => k_is)
      (case k8 => k_is)
      (case a9 => k_is)
      (case l9 => k_is)
      (case c9 => k_is)
      (case k9 => k_is)
      (case a10 => k_is)
      (case l10 => k_is)
      (case c10 => k_is)
      (case k10 => k_is)
      (case a11 => k_is)
      (case l11 => k_is)
      (case c11 => k_is)
      (case k11 => k_is)
      (case pg_Shelf => k_is)
      (case hd_Shelf => k_is)
      (case po_Shelf => k_is)
      (case sa_Shelf => k_is)
      (case mk_Shelf => k_is)
      (case kc_Shelf => k_is)
      (case na_Shelf_amounts => k_is)
      (case na_Shelf_answered => k_is)
      (case z_len => k_is)
      (case z_range => k_is)
      (case z_sorted => k_is)
      (case z_tuple => k_is)
    obtain ⟨t, T⟩ := T
    have e0 := hmg.symm.trans T.mg_law
    cases e0
    exact ⟨t.d_law, fun s u => My.law_binds T s u, fun base _ _ => My.ok_lawL T⟩

