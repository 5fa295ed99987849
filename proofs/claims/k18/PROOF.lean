import PyProof.Rows.All
import Wide.All
import OpenK.AllK
import Wide.FinOn
import PyProof.EqAt
import PyProof.EqKinds
import PyProof.TupleCall
import KE.BitLaws
import PySem.Challenge.RW_callcoin_k18_refused_questions
set_option Elab.async false
set_option linter.all false
set_option maxRecDepth 100000
namespace L2
open PySem PySem.Spec PyProof.Rows
abbrev Key := Sum Int Str
def keyIs : Key → Value → Bool
  | .inl k, v => Value.isInt k v
  | .inr x, v => Value.isStrOf x v
def keyH (w : World) : Key → Int
  | .inl k => hashInt k
  | .inr x => hashStr w x
theorem keyIs_shape : ∀ {k : Key} {v : Value}, keyIs k v = true → (∃ i t, k = Sum.inl i ∧ v = Value.int i t) ∨ (∃ x t, k = Sum.inr x ∧ v = Value.str x t)
  | .inl i, v, h => by
    obtain ⟨t, e⟩ := Value.isInt_shape (k := i) (v := v) h
    exact .inl ⟨i, t, rfl, e⟩
  | .inr x, v, h => by
    obtain ⟨t, e⟩ := Value.isStrOf_shape (x := x) (v := v) h
    exact .inr ⟨x, t, rfl, e⟩
theorem keyIs_int (i : Int) (t : Tok) : keyIs (.inl i) (.int i t) = true := by simp [keyIs, Value.isInt]
theorem keyIs_str (x : Str) (t : Tok) : keyIs (.inr x) (.str x t) = true := by simp [keyIs, Value.isStrOf]
theorem key_ll (a b : Int) : decide ((Sum.inl a : Key) = Sum.inl b) = (a == b) := by
  by_cases e : a = b
  · subst e; simp
  · have h : ¬ (Sum.inl a : Key) = Sum.inl b := fun q => e (Sum.inl.inj q)
    rw [decide_eq_false h]
    exact (beq_eq_false_iff_ne.mpr e).symm
theorem key_rr (a b : Str) : decide ((Sum.inr a : Key) = Sum.inr b) = decide (a = b) := by
  by_cases e : a = b
  · subst e; simp
  · have h : ¬ (Sum.inr a : Key) = Sum.inr b := fun q => e (Sum.inr.inj q)
    rw [decide_eq_false h, decide_eq_false e]
theorem key_lr (a : Int) (b : Str) : decide ((Sum.inl a : Key) = Sum.inr b) = false := decide_eq_false (fun q => nomatch q)
theorem key_rl (a : Str) (b : Int) : decide ((Sum.inr a : Key) = Sum.inl b) = false := decide_eq_false (fun q => nomatch q)
def mixKind (prog : Program) (w : World) : PySem.KeyKind prog w Key where
  is := keyIs
  hash := keyH w
  inj := fun v a b ha hb => by
    rcases keyIs_shape ha with ⟨i, t, rfl, rfl⟩ | ⟨x, t, rfl, rfl⟩
    · rcases keyIs_shape hb with ⟨j, u, rfl, e⟩ | ⟨y, u, rfl, e⟩
      · injection e with e1 _; rw [e1]
      · exact nomatch e
    · rcases keyIs_shape hb with ⟨j, u, rfl, e⟩ | ⟨y, u, rfl, e⟩
      · exact nomatch e
      · injection e with e1 _; rw [e1]
  byValue := fun k v h => by
    rcases keyIs_shape h with ⟨i, t, rfl, rfl⟩ | ⟨x, t, rfl, rfl⟩ <;> rfl
  pyHash := fun hv h => by
    rcases keyIs_shape hv with ⟨i, t, rfl, rfl⟩ | ⟨x, t, rfl, rfl⟩
    · exact wpAny_pyHash_int h
    · exact wpAny_pyHash_str h
  eqBool := fun hu hv h => by
    rcases keyIs_shape hu with ⟨i, t, rfl, rfl⟩ | ⟨x, t, rfl, rfl⟩
    · rcases keyIs_shape hv with ⟨j, u, rfl, rfl⟩ | ⟨y, u, rfl, rfl⟩
      · rw [key_ll] at h; exact wpAny_eqBool_int h
      · rw [key_lr] at h; exact SeqAt.EqAt.int_str i t y u _ _ _ _ h
    · rcases keyIs_shape hv with ⟨j, u, rfl, rfl⟩ | ⟨y, u, rfl, rfl⟩
      · rw [key_rl] at h; exact SeqAt.EqAt.str_int x t j u _ _ _ _ h
      · rw [key_rr] at h; exact wpAny_eqBool_str h
  «strs» := fun k x t v h => by
    rcases keyIs_shape h with ⟨i, u, rfl, e⟩ | ⟨y, u, rfl, e⟩
    · exact nomatch e
    · injection e with e1 _
      subst e1
      cases v <;> rfl
theorem mixKind_int (prog : Program) (w : World) (i : Int) (t : Tok) : (mixKind prog w).is (.inl i) (.int i t) = true := keyIs_int i t
theorem mixKind_str (prog : Program) (w : World) (x : Str) (t : Tok) : (mixKind prog w).is (.inr x) (.str x t) = true := keyIs_str x t
end L2
namespace L2
open PySem PySem.Spec PyProof.Rows
inductive V where
  | non | bl (b : Bool) | int (i : Int) | str (x : Str) | byt (b : Array UInt8) | flt (b : UInt64) | ref (a : Addr) | ty (n : String)
  deriving DecidableEq
def RelV : V → Value → Prop
  | .non, u => u = Value.none
  | .bl b, u => u = Value.bool b
  | .int i, u => ∃ t, u = Value.int i t
  | .str x, u => ∃ t, u = Value.str x t
  | .byt b, u => ∃ t, u = Value.bytes b t
  | .flt b, u => ∃ t, u = Value.float b t
  | .ref a, u => u = Value.ref a
  | .ty n, u => u = Value.type n
abbrev Vals : List V → List Value → Prop := Paired RelV
theorem Vals.length {xs : List V} {us : List Value} (r : Vals xs us) : xs.length = us.length := Paired.length r
theorem Vals.get : ∀ {xs : List V} {us : List Value} {i : Nat} {x : V}, Vals xs us → xs[i]? = some x → ∃ u, us[i]? = some u ∧ RelV x u
  | _, _, _, _, .nil, e => by simp at e
  | _, _, 0, _, .cons r _, e => by simp at e; subst e; exact ⟨_, rfl, r⟩
  | _, _, i + 1, x, .cons _ t, e => by
    obtain ⟨u, h1, h2⟩ := Vals.get (i := i) (x := x) t (by simpa using e)
    exact ⟨u, by simpa using h1, h2⟩
theorem Vals.set {x : V} {u : Value} (r : RelV x u) : ∀ {xs : List V} {us : List Value} (i : Nat), Vals xs us → Vals (xs.set i x) (us.set i u)
  | _, _, _, .nil => .nil
  | _, _, 0, .cons _ t => .cons r t
  | _, _, i + 1, .cons q t => .cons q (Vals.set r i t)
theorem Vals.append : ∀ {xs ys : List V} {us ws : List Value}, Vals xs us → Vals ys ws → Vals (xs ++ ys) (us ++ ws)
  | _, _, _, _, .nil, s => s
  | _, _, _, _, .cons r t, s => .cons r (Vals.append t s)
theorem Vals.take : ∀ {xs : List V} {us : List Value} (n : Nat), Vals xs us → Vals (xs.take n) (us.take n)
  | _, _, 0, _ => .nil
  | _, _, _ + 1, .nil => .nil
  | _, _, n + 1, .cons r t => .cons r (Vals.take n t)
theorem Vals.drop : ∀ {xs : List V} {us : List Value} (n : Nat), Vals xs us → Vals (xs.drop n) (us.drop n)
  | _, _, 0, r => r
  | _, _, _ + 1, .nil => .nil
  | _, _, n + 1, .cons _ t => Vals.drop n t
theorem Vals.none_of : ∀ {xs : List V} {us : List Value} {i : Nat}, Vals xs us → xs[i]? = none → us[i]? = none := fun {xs us i} r e => by
  have h1 := r.length
  have h2 : xs.length ≤ i := List.getElem?_eq_none_iff.mp e
  exact List.getElem?_eq_none_iff.mpr (by omega)
def RelO : Option V → Option Value → Prop
  | some v, some u => RelV v u
  | none, none => True
  | _, _ => False
def KV {κ : Type} : List (κ × V) → List (κ × Value) → Prop := Paired fun (p : κ × V) (q : κ × Value) => p.1 = q.1 ∧ RelV p.2 q.2
def kV : Key → V
  | .inl i => .int i
  | .inr x => .str x
inductive HO where
  | lst (xs : List V)
  | tup (xs : List V)
  | dK (kvs : List (Key × V)) | dT (kvs : List (List Key × V))
  | set (S : Int → Bool) (n : Nat)
  | ins (C dx : Addr) (fs : List (Str × V))
  | own (x : Addr)
  | xd (fs : List (Str × V))
  | met (f x : Addr)
  | rng (lo hi : Int)
  | frz (o : Obj) (u : HO)
  | tbl (ps : Array Value)
  | ext (φ : Heap → Prop)
abbrev Hp := Addr → Option HO
def upd (H : Hp) (a : Addr) (o : HO) : Hp := fun b => if b = a then some o else H b
theorem upd_same {H : Hp} {a : Addr} {o : HO} : upd H a o a = some o := by unfold upd; rw [if_pos rfl]
theorem upd_ne {H : Hp} {a b : Addr} {o : HO} (h : b ≠ a) : upd H a o b = H b := by unfold upd; rw [if_neg h]
theorem ne_of {H : Hp} {a b : Addr} {o u : HO} (h : H a = some o) (h' : H b = some u) (d : o ≠ u) : a ≠ b := by
  intro e; subst e; rw [h] at h'; exact d (Option.some.inj h')
theorem ne_of_none {H : Hp} {a b : Addr} {o : HO} (h : H a = some o) (h' : H b = none) : a ≠ b := by
  intro e; subst e; rw [h] at h'; cases h'
section
variable (P : Program) (w : World)
def ObjOk (H : Hp) (h : Heap) (a : Addr) : HO → Prop
  | .lst xs => xs.length ≤ sizeLine ∧ ∃ (its : List Value) (n : Nat), Vals xs its ∧ h.get? a = some { cls := .type "list", data := .seq its.toArray n }
  | .tup xs => xs.length ≤ sizeLine ∧ ∃ its : List Value, Vals xs its ∧ IsTup h a its.toArray
  | .dK kvs => kvs.length ≤ sizeLine ∧ (a == sysModules) = false ∧ ∃ vs, KV kvs vs ∧ h.DictOf (mixKind P w) a vs
  | .dT kvs => kvs.length ≤ sizeLine ∧ (a == sysModules) = false ∧ ∃ xs : List (List Key × Addr × Value),
      Paired (fun (p : List Key × V) (q : List Key × Addr × Value) => p.1 = q.1 ∧ H q.2.1 = some (.tup (p.1.map kV)) ∧ RelV p.2 q.2.2) kvs xs ∧
      ∃ o es ep, h.get? a = some o ∧ o.ExactDict ∧ o.data = .dict es ep ∧ es.toList = xs.map (entryOfKey (tupleKind (mixKind P w))) ∧ (xs.map (·.1)).Nodup
  | .set S n => h.SetOf (intKind P w) a S n
  | .ins C dx fs => H dx = some (.own a) ∧ fs.length ≤ 1000 ∧ dx ≠ a ∧ h.get? a = some (PySem.W.instObj C dx) ∧
      ∃ mA, h.Ns1 dx mA ∧ (∀ f, RelO (fs.lookup f) (mA f)) ∧ PySem.Within mA (fs.map (·.1))
  | .own _ => ∃ o, h.get? a = some o
  | .xd fs => ∃ mA, h.Ns1 a mA ∧ ∀ f, RelO (fs.lookup f) (mA f)
  | .rng lo hi => ∃ t u v, h.get? a = some { cls := .type "range", data := .fields #[.int lo t, .int hi u, .int 1 v] }
  | .frz o u => h.get? a = some o ∧ ObjOk H h a u
  | .tbl ps => h.get? a = some { cls := .none, data := .fields ps }
  | .met f x => h.get? a = some (PySem.W.methodObj (.ref f) (.ref x))
  | .ext φ => φ h ∧ (∃ o, h.get? a = some o) ∧ ∀ h1 h2 : Heap, φ h1 → (∀ o, h1.get? a = some o → h2.get? a = some o) → φ h2
def HOk (H : Hp) (h : Heap) : Prop := ∀ a o, H a = some o → ObjOk P w H h a o
end
section
variable {P : Program} {w : World} {H H' : Hp} {h h' : Heap} {a : Addr} {o : HO}
theorem ObjOk.lt (x : ObjOk P w H h a o) : a < h.objs.size := by
  cases o with
  | lst xs => obtain ⟨_, _, _, _, e⟩ := x; exact Heap.lt_size e
  | tup xs => obtain ⟨_, _, _, p⟩ := x; exact p.lt
  | dK kvs => obtain ⟨_, _, _, _, o, _, _, e, _⟩ := x; exact Heap.lt_size e
  | dT kvs => obtain ⟨_, _, _, _, o, _, _, e, _⟩ := x; exact Heap.lt_size e
  | set S n => obtain ⟨o, _, _, _, e, _⟩ := x; exact Heap.lt_size e
  | ins C dx fs => obtain ⟨_, _, _, e, _⟩ := x; exact Heap.lt_size e
  | own y => obtain ⟨_, e⟩ := x; exact Heap.lt_size e
  | xd fs => obtain ⟨_, ⟨_, _, _, e, _⟩, _⟩ := x; exact Heap.lt_size e
  | rng lo hi => obtain ⟨_, _, _, e⟩ := x; exact Heap.lt_size e
  | frz ob u => obtain ⟨e, _⟩ := x; exact Heap.lt_size e
  | tbl ps => exact Heap.lt_size (show h.get? a = some _ from x)
  | met f y => exact Heap.lt_size (show h.get? a = some _ from x)
  | ext φ => obtain ⟨_, ⟨_, e⟩, _⟩ := x; exact Heap.lt_size e
theorem Paired.mapP {α β : Type} {F G : α → β → Prop} : ∀ {l₁ : List α} {l₂ : List β}, Paired F l₁ l₂ → (∀ a b, F a b → G a b) → Paired G l₁ l₂
  | _, _, .nil, _ => .nil
  | _, _, .cons r t, f => .cons (f _ _ r) (Paired.mapP t f)
theorem ObjOk.stay (x : ObjOk P w H h a o) (k : ∀ b u, (b = a ∨ H b = some (.own a)) → h.get? b = some u → h'.get? b = some u)
    (ho : ∀ b, H b = some (.own a) → H' b = some (.own a)) (ht : ∀ b xs, H b = some (.tup xs) → H' b = some (.tup xs)) : ObjOk P w H' h' a o := by
  induction o with
  | lst xs => obtain ⟨z, its, n, r, e⟩ := x; exact ⟨z, its, n, r, k _ _ (.inl rfl) e⟩
  | tup xs => obtain ⟨z, its, r, ob, e, c⟩ := x; exact ⟨z, its, r, ob, k _ _ (.inl rfl) e, c⟩
  | dK kvs => obtain ⟨z, y, vs, r, ob, es, ep, e, c⟩ := x; exact ⟨z, y, vs, r, ob, es, ep, k _ _ (.inl rfl) e, c⟩
  | dT kvs =>
    obtain ⟨z, y, xs, r, ob, es, ep, e, c⟩ := x
    exact ⟨z, y, xs, Paired.mapP r fun p q z => ⟨z.1, ht _ _ z.2.1, z.2.2⟩, ob, es, ep, k _ _ (.inl rfl) e, c⟩
  | set S n => obtain ⟨ob, es, ep, t, e, c⟩ := x; exact ⟨ob, es, ep, t, k _ _ (.inl rfl) e, c⟩
  | ins C dx fs =>
    obtain ⟨d, z, ne, e, mA, ⟨od, es, ep, e2, c⟩, r⟩ := x
    exact ⟨ho _ d, z, ne, k _ _ (.inl rfl) e, mA, ⟨od, es, ep, k _ _ (.inr d) e2, c⟩, r⟩
  | own y => obtain ⟨ob, e⟩ := x; exact ⟨ob, k _ _ (.inl rfl) e⟩
  | xd fs => obtain ⟨mA, ⟨od, es, ep, e, c⟩, r⟩ := x; exact ⟨mA, ⟨od, es, ep, k _ _ (.inl rfl) e, c⟩, r⟩
  | rng lo hi => obtain ⟨t, u, v, e⟩ := x; exact ⟨t, u, v, k _ _ (.inl rfl) e⟩
  | frz ob u ih => obtain ⟨e, q⟩ := x; exact ⟨k _ _ (.inl rfl) e, ih q⟩
  | tbl ps =>
    have e : h.get? a = some { cls := .none, data := .fields ps } := x
    show h'.get? a = some { cls := .none, data := .fields ps }
    exact k a _ (.inl rfl) e
  | met f y =>
    have e : h.get? a = some (PySem.W.methodObj (.ref f) (.ref y)) := x
    show h'.get? a = some (PySem.W.methodObj (.ref f) (.ref y))
    exact k a _ (.inl rfl) e
  | ext φ => obtain ⟨p, ⟨o, e⟩, st⟩ := x; exact ⟨st _ _ p fun o q => k _ _ (.inl rfl) q, ⟨o, k _ _ (.inl rfl) e⟩, st⟩
theorem HOk.lt (x : HOk P w H h) (e : H a = some o) : a < h.objs.size := (x a o e).lt
theorem HOk.fresh (x : HOk P w H h) (e : h.objs.size ≤ a) : H a = none := by
  cases q : H a with
  | none => rfl
  | some u => exact absurd (Nat.lt_of_lt_of_le (x.lt q) e) (Nat.lt_irrefl _)
theorem HOk.kept (x : HOk P w H h) (k : ∀ b u, h.get? b = some u → h'.get? b = some u) : HOk P w H h' := fun a o e =>
  (x a o e).stay (fun b u _ q => k b u q) (fun _ q => q) fun _ _ q => q
theorem HOk.laid (x : HOk P w H h) (k : ∀ b u, h.get? b = some u → h'.get? b = some u) (hp : h.objs.size ≤ a) (new : ObjOk P w (upd H a o) h' a o) : HOk P w (upd H a o) h' := fun b u e => by
  have hn := x.fresh hp
  by_cases hb : b = a
  · subst hb; rw [upd_same] at e; cases e; exact new
  · rw [upd_ne hb] at e
    exact (x b u e).stay (fun c v _ q => k c v q) (fun c q => by rw [upd_ne (ne_of_none q hn)]; exact q) fun c xs q => by rw [upd_ne (ne_of_none q hn)]; exact q
end
def Rd (H : Hp) (a : Addr) (u : HO) : Prop := H a = some u ∨ ∃ o, H a = some (.frz o u)
theorem Rd.of {H : Hp} {a : Addr} {u : HO} (h : H a = some u) : Rd H a u := .inl h
theorem Rd.ok {P : Program} {w : World} {H : Hp} {h : Heap} {a : Addr} {u : HO} (r : Rd H a u) (x : HOk P w H h) : ObjOk P w H h a u := by
  rcases r with r | ⟨o, r⟩
  · exact x a u r
  · obtain ⟨_, q⟩ := x a _ r
    exact q
def Mut : Option HO → Prop
  | some (.lst _) => True
  | some (.dK _) => True
  | some (.dT _) => True
  | some (.set _ _) => True
  | some (.ins _ _ _) => True
  | some (.ext _) => True
  | _ => False
section
variable {P : Program} {w : World} {H : Hp} {h h' : Heap} {x e : Addr} {o' : HO}
theorem HOk.write (ok : HOk P w H h) (mu : Mut (H x)) (he : e = x ∨ H e = some (.own x)) (k : ∀ b u, b ≠ e → h.get? b = some u → h'.get? b = some u) (heo : ∃ u, h'.get? e = some u)
    (new : ObjOk P w (upd H x o') h' x o') : HOk P w (upd H x o') h' := fun b u q => by
  have nown : ∀ c y, H c = some (.own y) → c ≠ x := fun c y r z => by subst z; rw [r] at mu; exact mu
  have ntup : ∀ c xs, H c = some (.tup xs) → c ≠ x := fun c xs r z => by subst z; rw [r] at mu; exact mu
  by_cases hb : b = x
  · subst hb; rw [upd_same] at q; cases q; exact new
  · rw [upd_ne hb] at q
    by_cases hbe : b = e
    · have q' : H b = some (.own x) := by
        rcases he with z | z
        · exact absurd (hbe.trans z) hb
        · rw [hbe]; exact z
      rw [q] at q'; cases q'
      obtain ⟨v, hv⟩ := heo
      exact ⟨v, by rw [hbe]; exact hv⟩
    · refine (ok b u q).stay (fun c v hc r => k c v ?_ r) (fun c r => by rw [upd_ne (nown c b r)]; exact r) fun c xs r => by rw [upd_ne (ntup c xs r)]; exact r
      rcases hc with rfl | hc
      · exact hbe
      · rintro rfl
        rcases he with z | z
        · exact nown c b hc z
        · rw [hc] at z; cases z; exact hb rfl
end
structure Un (fs ex : List Addr) (H H' : Hp) (h h' : Heap) : Prop where
  keep : ∀ b o, h.get? b = some o → H b = none → b ∉ fs → b ∉ ex → h'.get? b = some o
  slot : ∀ b o, h.get? b = some o → H b = none → b ∈ fs → b ∉ ex → ∃ sl, h'.get? b = some { o with slots := sl }
  free : ∀ b o, h.get? b = some o → H b = none → b ∉ ex → H' b = none
  there : ∀ b o, h.get? b = some o → b ∉ ex → ∃ o', h'.get? b = some o'
  tups : ∀ b xs, H b = some (.tup xs) → H' b = some (.tup xs)
  frzs : ∀ b o u, H b = some (.frz o u) → H' b = some (.frz o u)
  tbls : ∀ b ps, H b = some (.tbl ps) → ∃ more, H' b = some (.tbl (ps ++ more))
section
variable {fs fs' ex ex' : List Addr} {H H1 H2 : Hp} {h h1 h2 h' : Heap} {a x e : Addr} {o : HO}
theorem Un.any (u : Un fs ex H H1 h h1) {b : Addr} {ob : Obj} (q : h.get? b = some ob) (n : H b = none) (hx : b ∉ ex) : ∃ sl, h1.get? b = some { ob with slots := sl } := by
  by_cases hb : b ∈ fs
  · exact u.slot b ob q n hb hx
  · exact ⟨ob.slots, u.keep b ob q n hb hx⟩
theorem Un.trans (a : Un fs ex H H1 h h1) (b : Un fs ex H1 H2 h1 h2) : Un fs ex H H2 h h2 where
  keep := fun c ob q n hc hx => b.keep c ob (a.keep c ob q n hc hx) (a.free c ob q n hx) hc hx
  slot := fun c ob q n hc hx => by
    obtain ⟨sl, e1⟩ := a.slot c ob q n hc hx
    obtain ⟨sl', e2⟩ := b.slot c _ e1 (a.free c ob q n hx) hc hx
    exact ⟨sl', e2⟩
  free := fun c ob q n hx => by
    obtain ⟨o', e1⟩ := a.there c ob q hx
    exact b.free c o' e1 (a.free c ob q n hx) hx
  there := fun c ob q hx => by
    obtain ⟨o', e1⟩ := a.there c ob q hx
    exact b.there c o' e1 hx
  tups := fun c xs q => b.tups c xs (a.tups c xs q)
  frzs := fun c ob xs q => b.frzs c ob xs (a.frzs c ob xs q)
  tbls := fun c ps q => by
    obtain ⟨m1, e1⟩ := a.tbls c ps q
    obtain ⟨m2, e2⟩ := b.tbls c _ e1
    exact ⟨m1 ++ m2, by rw [e2, Array.append_assoc]⟩
theorem Un.kept (k : ∀ b u, h.get? b = some u → h'.get? b = some u) : Un fs ex H H h h' :=
  ⟨fun b ob q _ _ _ => k b ob q, fun b ob q _ _ _ => ⟨ob.slots, k b ob q⟩, fun _ _ _ n _ => n, fun b ob q _ => ⟨ob, k b ob q⟩, fun _ _ q => q, fun _ _ _ q => q, fun _ ps q => ⟨#[], by rw [q]; simp⟩⟩
theorem Un.refl : Un fs ex H H h h := Un.kept fun _ _ q => q
theorem Un.laid (k : ∀ b u, h.get? b = some u → h'.get? b = some u) (hp : h.objs.size ≤ a) (hn : H a = none) : Un fs ex H (upd H a o) h h' where
  keep := fun b u q _ _ _ => k b u q
  slot := fun b u q _ _ _ => ⟨u.slots, k b u q⟩
  free := fun b u q n _ => by rw [upd_ne (Nat.ne_of_lt (Nat.lt_of_lt_of_le (Heap.lt_size q) hp))]; exact n
  there := fun b u q _ => ⟨u, k b u q⟩
  tups := fun b xs q => by rw [upd_ne (ne_of_none q hn)]; exact q
  frzs := fun b u xs q => by rw [upd_ne (ne_of_none q hn)]; exact q
  tbls := fun b ps q => ⟨#[], by rw [upd_ne (ne_of_none q hn), q]; simp⟩
theorem Un.write (mu : Mut (H x)) (he : e = x ∨ H e = some (.own x)) (k : ∀ b u, b ≠ e → h.get? b = some u → h'.get? b = some u) (heo : ∃ u, h'.get? e = some u) : Un fs ex H (upd H x o) h h' := by
  have hx : ∀ b, H b = none → b ≠ x := fun b n z => by subst z; rw [n] at mu; exact mu
  have hb : ∀ b, H b = none → b ≠ e := fun b n z => by
    subst z
    rcases he with r | r
    · exact hx b n r
    · rw [n] at r; cases r
  have hm : ∀ b u, H b = some u → ¬ Mut (some u) → b ≠ x := fun b u q nm z => by subst z; rw [q] at mu; exact nm mu
  refine ⟨fun b u q n _ _ => k b u (hb b n) q, fun b u q n _ _ => ⟨u.slots, k b u (hb b n) q⟩, fun b u q n _ => by rw [upd_ne (hx b n)]; exact n, fun b u q _ => ?_,
    fun b xs q => by rw [upd_ne (hm b _ q fun z => z)]; exact q, fun b u xs q => by rw [upd_ne (hm b _ q fun z => z)]; exact q, fun b ps q => ⟨#[], by rw [upd_ne (hm b _ q fun z => z), q]; simp⟩⟩
  by_cases hbe : b = e
  · subst hbe; exact heo
  · exact ⟨u, k b u hbe q⟩
theorem Un.mono (u : Un fs ex H H1 h h1) (hs : ∀ b ∈ fs, b ∈ fs') (hx : ∀ b ∈ ex, b ∈ ex') : Un fs' ex' H H1 h h1 :=
  ⟨fun b ob q n hb he => u.keep b ob q n (fun z => hb (hs b z)) fun z => he (hx b z), fun _ _ q n _ he => u.any q n fun z => he (hx _ z), fun b ob q n he => u.free b ob q n fun z => he (hx b z), fun b ob q he => u.there b ob q fun z => he (hx b z), u.tups, u.frzs, u.tbls⟩
end
def trk (h : Heap) (H : Hp) : List Addr := (List.range h.objs.size).filter fun a => (H a).isSome
def hidT (h : Heap) (H : Hp) : Heap := PySem.W.hideAll h (trk h H)
theorem hidT_size (h : Heap) (H : Hp) : (hidT h H).objs.size = h.objs.size := PySem.W.hideAll_size _ _
theorem hidT_get {h : Heap} {H : Hp} {b : Addr} {o : Obj} (e : h.get? b = some o) (n : H b = none) : (hidT h H).get? b = some o :=
  PySem.W.hideAll_get _ e fun hm => by
    have q : (H b).isSome = true := (List.mem_filter.mp hm).2
    rw [n] at q; simp at q
theorem of_hidT {h : Heap} {H : Hp} {b : Addr} {o : Obj} (e : (hidT h H).get? b = some o) : h.get? b = some o ∧ H b = none := by
  have e' : h.get? b = some o := PySem.W.of_hideAll (trk h H) e
  refine ⟨e', ?_⟩
  cases q : H b with
  | none => rfl
  | some x =>
    have hm : b ∈ trk h H := List.mem_filter.mpr ⟨List.mem_range.mpr (Heap.lt_size e'), by simp [q]⟩
    have z : (hidT h H).get? b = none := PySem.W.hideAll_none (trk h H) hm
    rw [z] at e; cases e
def allNews (g h : Heap) (L : Addr) : List (Addr × Obj) := (List.range h.objs.size).filterMap fun a => if a = L ∨ (g.get? a).isSome = true then none else (h.get? a).map fun o => (a, o)
def rest (g h : Heap) (L d : Addr) : List (Addr × Obj) := (allNews g h L).filter fun p => decide (p.1 ≠ d)
end L2
namespace L2
open PySem PySem.Spec PyProof.Rows
structure Mod (K : PySem.W.Frag) (mg : Str → Option Value) (base : Heap) : Prop where
  kin : K.In base
  glob : base.Ns mainGlobals mg
  blt : ∃ mb, base.Ns builtinsNs mb ∧ ∀ x : Str, x ≠ "__name__" → mb x = bootBuiltins x
  nolimit : base.NoLimit
structure Cx where
  prog : Program
  w : World
  K : PySem.W.Frag
  mg : Str → Option Value
  base : Heap
  A : Around
  N : List Str
  s_0 : Shared
  H_0 : Hp
  env : Env
  outer : List Env
  stack : List Env
  ex : List Addr
  fn : Str → Bool
  calm : Bool
  pn : List (Addr × Obj)
  xe : Value → Shared → Prop
def frs (l : List Env) : List Addr := l.filterMap (·.frame)
abbrev Cx.fs (X : Cx) : List Addr := frs X.outer
def Vis (sc : Scope) (x : Str) : Prop := sc.names.lookup x = some .local ∨ sc.names.lookup x = some .cell ∨ sc.names.lookup x = some .free
def Loc (sc : Scope) (x : Str) : Prop := sc.names.lookup x = some .local ∨ sc.names.lookup x = some .cell
def Look (env : Env) (h : Heap) (m : Str → Option Value) (x : Str) (u : Value) : Prop :=
  (env.kindOf x = some .local ∧ m x = some u) ∨ ((env.kindOf x = some .cell ∨ env.kindOf x = some .free) ∧ ∃ c, env.cells.lookup x = some c ∧ h.IsCell c (some u))
structure Cx.Ok (X : Cx) : Prop where
  mod : Mod X.K X.mg X.base
  kind : X.env.scope.kind = .function
  glob : X.env.globals = mainGlobals
  blt : X.env.builtins = builtinsNs
  above : X.s_0.heap.objs.size ≤ X.env.locals
  inj : ∀ x y c, X.env.cells.lookup x = some c → X.env.cells.lookup y = some c → x = y
  has : ∀ x, (X.env.kindOf x = some .cell ∨ X.env.kindOf x = some .free) → ∃ c, X.env.cells.lookup x = some c
  cab : ∀ x c, X.fn x = true → X.env.cells.lookup x = some c → X.s_0.heap.objs.size ≤ c
  hd : X.calm = true → X.A.handled = none
  frames : X.A.frames = some X.stack
  stk : X.stack = X.outer ∨ (X.stack = X.env :: X.outer ∧ X.env.frame = some X.env.locals)
  exf : ∀ b ∈ X.ex, b ≠ X.env.locals ∧ ∀ x c, X.env.cells.lookup x = some c → c ≠ b
  bs : ∀ b o, X.base.get? b = some o → X.s_0.heap.get? b = some o ∧ X.H_0 b = none
  bsz : X.base.objs.size ≤ X.s_0.heap.objs.size
  noex : ∀ b o, X.base.get? b = some o → b ∉ X.ex
  exfs : ∀ b ∈ X.ex, b ∉ X.fs
  funs : X.s_0.heap.FunFrames X.base X.outer
  frf : ∀ b ∈ X.fs, X.H_0 b = none
structure Inv (X : Cx) (pins : List (Addr × Obj)) (σ : List (Option V)) (H : Hp) (s : Shared) : Prop where
  ok : X.Ok
  os : s.os = X.s_0.os
  bare : AllBare s.gens
  base : Un X.fs X.ex X.H_0 H X.s_0.heap s.heap
  loc : ∃ m, s.heap.Ns X.env.locals m ∧ ∀ (i : Nat) (x : Str) (v : V), X.N[i]? = some x → σ[i]? = some (some v) → Vis X.env.scope x → ∃ u, RelV v u ∧ Look X.env s.heap m x u
  cell : ∀ x c, X.env.cells.lookup x = some c → ∃ v, s.heap.IsCell c v
  free : H X.env.locals = none
  freeC : ∀ x c, X.env.cells.lookup x = some c → H c = none
  pin : ∀ p ∈ X.pn ++ pins, s.heap.get? p.1 = some p.2 ∧ H p.1 = none ∧ p.1 ≠ X.env.locals ∧ p.1 ∉ X.fs ∧ ∀ v, p.2.data ≠ .cell v
  hok : HOk X.prog X.w H s.heap
  len : σ.length = X.N.length
section
variable {X : Cx} {pins : List (Addr × Obj)} {σ : List (Option V)} {H H' : Hp} {s : Shared} {h' : Heap}
theorem Cx.Ok.nofr (ok : X.Ok) {b : Addr} {o : Obj} (e : X.base.get? b = some o) : b ∉ X.fs := fun hb => by
  have := (ok.funs.mem hb).1
  rw [e] at this; cases this
theorem Inv.bs (I : Inv X pins σ H s) : ∀ b o, X.base.get? b = some o → s.heap.get? b = some o ∧ H b = none := fun b o e =>
  ⟨I.base.keep b o (I.ok.bs b o e).1 (I.ok.bs b o e).2 (I.ok.nofr e) (I.ok.noex b o e), I.base.free b o (I.ok.bs b o e).1 (I.ok.bs b o e).2 (I.ok.noex b o e)⟩
theorem Inv.bk (I : Inv X pins σ H s) : ∀ b o, X.base.get? b = some o → s.heap.get? b = some o := fun b o e => (I.bs b o e).1
theorem Inv.mod (I : Inv X pins σ H s) : Mod X.K X.mg X.base := I.ok.mod
theorem Inv.kIn (I : Inv X pins σ H s) : X.K.In s.heap := I.ok.mod.kin.keeps I.bk
theorem Inv.nolimit (I : Inv X pins σ H s) : s.heap.NoLimit := I.ok.mod.nolimit.keeps I.bk
theorem Inv.fr (I : Inv X pins σ H s) : ∃ m, Fr X.base X.env.locals s.heap m :=
  let ⟨m, hn, _⟩ := I.loc
  ⟨m, hn, I.bk, Nat.le_trans I.ok.bsz I.ok.above⟩
theorem Inv.lt (I : Inv X pins σ H s) : X.env.locals < s.heap.objs.size := let ⟨_, hn, _⟩ := I.loc; hn.lt
theorem Inv.sz (I : Inv X pins σ H s) : X.s_0.heap.objs.size ≤ s.heap.objs.size := Nat.le_trans I.ok.above (Nat.le_of_lt I.lt)
theorem Inv.nofs (I : Inv X pins σ H s) {a : Addr} (h : s.heap.objs.size ≤ a) : a ∉ X.fs := fun hb => by
  obtain ⟨_, o, ho, _⟩ := I.ok.funs.mem hb
  exact absurd (Nat.lt_of_lt_of_le (Heap.lt_size ho) (Nat.le_trans I.sz h)) (Nat.lt_irrefl _)
theorem Inv.cne (I : Inv X pins σ H s) : ∀ x c, X.env.cells.lookup x = some c → c ≠ X.env.locals := fun x c e z => by
  obtain ⟨v, o, ho, hd⟩ := I.cell x c e
  obtain ⟨m, ⟨o', es, ep, ho', hd', _⟩, _⟩ := I.loc
  rw [z, ho'] at ho; cases ho; rw [hd'] at hd; cases hd
theorem Inv.funs (I : Inv X pins σ H s) : s.heap.FunFrames X.base X.outer := by
  have all : ∀ (l : List Env), (∀ b ∈ frs l, b ∈ X.fs) → X.s_0.heap.FunFrames X.base l → s.heap.FunFrames X.base l := by
    intro l
    induction l with
    | nil => intro _ _; trivial
    | cons env r ih =>
      intro hs hl
      obtain ⟨hk, ⟨L, o, hf, hn, ho, hd⟩, hr⟩ := hl
      have hL : L ∈ X.fs := hs L (by unfold frs; rw [List.filterMap_cons, hf]; exact List.mem_cons_self)
      obtain ⟨sl, e⟩ := I.base.slot L o ho (I.ok.frf L hL) hL fun z => I.ok.exfs L z hL
      exact ⟨hk, ⟨L, _, hf, hn, e, hd⟩, ih (fun b hb => hs b (by unfold frs; rw [List.filterMap_cons, hf]; exact List.mem_cons_of_mem _ hb)) hr⟩
  exact all X.outer (fun _ hb => hb) I.ok.funs
theorem Inv.stack (I : Inv X pins σ H s) : s.heap.FunFrames X.base X.stack := by
  rcases I.ok.stk with e | ⟨e, hf⟩
  · rw [e]; exact I.funs
  · rw [e]
    obtain ⟨m, hn, _⟩ := I.loc
    refine .cons (by rw [I.ok.kind]; decide) hf hn ?_ I.funs
    exact Heap.get?_none_of_le (Nat.le_trans I.ok.bsz I.ok.above)
theorem Inv.stkSub (I : Inv X pins σ H s) : ∀ b ∈ frs X.stack, b ∈ X.env.locals :: X.fs := fun b hb => by
  rcases I.ok.stk with e | ⟨e, hf⟩
  · rw [e] at hb; exact List.mem_cons_of_mem _ hb
  · rw [e] at hb
    unfold frs at hb
    rw [List.filterMap_cons, hf] at hb
    exact hb
theorem Inv.stkFree (I : Inv X pins σ H s) : ∀ b ∈ frs X.stack, H b = none := fun b hb => by
  rcases List.mem_cons.mp (I.stkSub b hb) with e | hb
  · rw [e]; exact I.free
  · obtain ⟨_, o, ho, _⟩ := I.ok.funs.mem hb
    exact I.base.free b o ho (I.ok.frf b hb) fun z => I.ok.exfs b z hb
theorem Inv.step {g' : Array GenState} {t' : Nat} {d' : Drawn} {ch : List Addr} (I : Inv X pins σ H s)
    (hch : ∀ b ∈ ch, (b ∈ X.ex ∨ X.s_0.heap.objs.size ≤ b) ∧ b ≠ X.env.locals ∧ (∀ x c, X.env.cells.lookup x = some c → c ≠ b) ∧ ∀ p ∈ X.pn ++ pins, p.1 ≠ b)
    (keep : ∀ b o, b ≠ X.env.locals → b ∉ X.fs → b ∉ ch → s.heap.get? b = some o → H b = none → h'.get? b = some o)
    (slot : ∀ b o, b ≠ X.env.locals → b ∈ X.fs → b ∉ ch → s.heap.get? b = some o → H b = none → ∃ sl, h'.get? b = some { o with slots := sl }) (free : ∀ b o, b ∉ ch → s.heap.get? b = some o → H b = none → H' b = none)
    (there : ∀ b o, b ∉ ch → s.heap.get? b = some o → ∃ o', h'.get? b = some o')
    (tups : ∀ b xs, H b = some (.tup xs) → H' b = some (.tup xs)) (frzs : ∀ b o u, H b = some (.frz o u) → H' b = some (.frz o u)) (tbls : ∀ b ps, H b = some (.tbl ps) → ∃ more, H' b = some (.tbl (ps ++ more)))
    (ns : ∀ m, s.heap.Ns X.env.locals m → h'.Ns X.env.locals m) (hok : HOk X.prog X.w H' h') (hg : AllBare g') :
    Inv X pins σ H' { s with heap := h', gens := g', drawn := d', toks := t' } := by
  have neL : ∀ b o, X.s_0.heap.get? b = some o → b ≠ X.env.locals := fun b o e => Nat.ne_of_lt (Nat.lt_of_lt_of_le (Heap.lt_size e) I.ok.above)
  have neC : ∀ b o, X.s_0.heap.get? b = some o → b ∉ X.ex → b ∉ ch := fun b o e hx hb => by
    rcases (hch b hb).1 with z | z
    · exact hx z
    · exact absurd (Nat.lt_of_lt_of_le (Heap.lt_size e) z) (Nat.lt_irrefl _)
  have cellK : ∀ x c, X.env.cells.lookup x = some c → ∀ v, s.heap.IsCell c v → h'.IsCell c v := fun x c e v ⟨o, ho, hd⟩ => by
    have nch : c ∉ ch := fun z => (hch c z).2.2.1 x c e rfl
    by_cases hc : c ∈ X.fs
    · obtain ⟨sl, q⟩ := slot c o (I.cne x c e) hc nch ho (I.freeC x c e)
      exact ⟨_, q, hd⟩
    · exact ⟨o, keep c o (I.cne x c e) hc nch ho (I.freeC x c e), hd⟩
  refine ⟨I.ok, I.os, hg, ⟨fun b o e n hb hx => ?_, fun b o e n hb hx => ?_, fun b o e n hx => ?_, fun b o e hx => ?_, fun b xs e => tups b xs (I.base.tups b xs e), fun b o xs e => frzs b o xs (I.base.frzs b o xs e), fun b ps e => ?_⟩, ?_, fun x c e => ?_, ?_, fun x c e => ?_, fun p hp => ?_, hok, I.len⟩
  · exact keep b o (neL b o e) hb (neC b o e hx) (I.base.keep b o e n hb hx) (I.base.free b o e n hx)
  · obtain ⟨sl, e1⟩ := I.base.slot b o e n hb hx
    obtain ⟨sl', e2⟩ := slot b _ (neL b o e) hb (neC b o e hx) e1 (I.base.free b o e n hx)
    exact ⟨sl', e2⟩
  · obtain ⟨o', e1⟩ := I.base.there b o e hx
    exact free b o' (neC b o e hx) e1 (I.base.free b o e n hx)
  · obtain ⟨o', e1⟩ := I.base.there b o e hx
    exact there b o' (neC b o e hx) e1
  · obtain ⟨m1, e1⟩ := I.base.tbls b ps e
    obtain ⟨m2, e2⟩ := tbls b _ e1
    exact ⟨m1 ++ m2, by rw [e2, Array.append_assoc]⟩
  · obtain ⟨m, hn, hl⟩ := I.loc
    refine ⟨m, ns m hn, fun i x v e1 e2 e3 => ?_⟩
    obtain ⟨u, r, l⟩ := hl i x v e1 e2 e3
    refine ⟨u, r, ?_⟩
    rcases l with l | ⟨k, c, e, z⟩
    · exact .inl l
    · exact .inr ⟨k, c, e, cellK x c e _ z⟩
  · obtain ⟨v, z⟩ := I.cell x c e
    exact ⟨v, cellK x c e v z⟩
  · obtain ⟨m, ⟨o, _, _, ho, _⟩, _⟩ := I.loc
    exact free _ o (fun z => (hch _ z).2.1 rfl) ho I.free
  · obtain ⟨v, o, ho, hd⟩ := I.cell x c e
    exact free c o (fun z => (hch c z).2.2.1 x c e rfl) ho (I.freeC x c e)
  · obtain ⟨e, n, ne, nf, d⟩ := I.pin p hp
    have nch : p.1 ∉ ch := fun z => (hch p.1 z).2.2.2 p hp rfl
    exact ⟨keep p.1 p.2 ne nf nch e n, free p.1 p.2 nch e n, ne, nf, d⟩
theorem Inv.un {t' : Nat} (I : Inv X pins σ H s) (u : Un X.fs [] H H' s.heap h') (hok : HOk X.prog X.w H' h') : Inv X pins σ H' { s with heap := h', toks := t' } := by
  obtain ⟨m, ⟨o, es, ep, ho, r⟩, _⟩ := id I.loc
  obtain ⟨sl, hL⟩ := u.any ho I.free (by simp)
  exact I.step (g' := s.gens) (d' := s.drawn) (ch := []) (fun _ z => nomatch z) (fun b o _ hb _ e n => u.keep b o e n hb (by simp)) (fun b o _ hb _ e n => u.slot b o e n hb (by simp)) (fun b o _ e n => u.free b o e n (by simp)) (fun b o _ e => u.there b o e (by simp)) u.tups u.frzs u.tbls (fun m' hm => by
    obtain ⟨o', es', ep', ho', r'⟩ := hm
    rw [ho] at ho'; cases ho'
    exact ⟨_, es', ep', hL, r'⟩) hok I.bare
theorem Inv.call {g' : Array GenState} {t' : Nat} {d' : Drawn} {ch : List Addr} (I : Inv X pins σ H s) (u : Un (frs X.stack) ch H H' s.heap h') (hok : HOk X.prog X.w H' h') (hg : AllBare g')
    (hch : ∀ b ∈ ch, (b ∈ X.ex ∨ X.s_0.heap.objs.size ≤ b) ∧ b ≠ X.env.locals ∧ (∀ x c, X.env.cells.lookup x = some c → c ≠ b) ∧ ∀ p ∈ X.pn ++ pins, p.1 ≠ b) :
    Inv X pins σ H' { s with heap := h', gens := g', drawn := d', toks := t' } := by
  obtain ⟨m, ⟨o, es, ep, ho, r⟩, _⟩ := id I.loc
  obtain ⟨sl, hL⟩ := u.any ho I.free fun z => (hch _ z).2.1 rfl
  exact I.step (ch := ch) hch (fun b o hL hb hc e n => u.keep b o e n (fun z => (List.mem_cons.mp (I.stkSub b z)).elim hL hb) hc) (fun b o _ _ hc e n => u.any e n hc) (fun b o hc e n => u.free b o e n hc) (fun b o hc e => u.there b o e hc) u.tups u.frzs u.tbls (fun m' hm => by
    obtain ⟨o', es', ep', ho', r'⟩ := hm
    rw [ho] at ho'; cases ho'
    exact ⟨_, es', ep', hL, r'⟩) hok hg
theorem Inv.turned {t' : Nat} {it : Addr} (I : Inv X pins σ H s) (k : ∀ b o, b ≠ it → s.heap.get? b = some o → h'.get? b = some o) (hn : H it = none) (hL : it ≠ X.env.locals)
    (h1 : it ∈ X.ex ∨ X.s_0.heap.objs.size ≤ it) (h2 : ∀ x c, X.env.cells.lookup x = some c → c ≠ it) (h3 : ∀ p ∈ X.pn ++ pins, p.1 ≠ it) : Inv X pins σ H { s with heap := h', toks := t' } := by
  have nit : ∀ b u, H b = some u → b ≠ it := fun b u e z => by rw [z, hn] at e; cases e
  refine I.step (g' := s.gens) (d' := s.drawn) (ch := [it]) (fun b hb => ?_) (fun b o _ _ hc e _ => k b o (fun z => hc (by simp [z])) e) (fun b o _ _ hc e _ => ⟨o.slots, k b o (fun z => hc (by simp [z])) e⟩) (fun _ _ _ _ n => n)
    (fun b o hc e => ⟨o, k b o (fun z => hc (by simp [z])) e⟩) (fun _ _ e => e) (fun _ _ _ e => e) (fun b ps e => ⟨#[], by rw [e]; simp⟩) (fun m hm => ?_) (fun b u e => ?_) I.bare
  · have e : b = it := by simpa using hb
    subst e
    exact ⟨h1, hL, h2, h3⟩
  · obtain ⟨o, es, ep, ho, r⟩ := hm
    exact ⟨o, es, ep, k _ o (Ne.symm hL) ho, r⟩
  · refine (I.hok b u e).stay (fun c v hc q => k c v ?_ q) (fun _ q => q) fun _ _ q => q
    rcases hc with z | z
    · rw [z]; exact nit b u e
    · exact nit c _ z
theorem Inv.tok (I : Inv X pins σ H s) (t : Nat) : Inv X pins σ H { s with toks := t } := I.un (h' := s.heap) (t' := t) Un.refl I.hok
theorem Inv.kept {t' : Nat} (I : Inv X pins σ H s) (k : ∀ b u, s.heap.get? b = some u → h'.get? b = some u) : Inv X pins σ H { s with heap := h', toks := t' } := I.un (Un.kept k) (I.hok.kept k)
theorem Inv.laid {a : Addr} {o : HO} {t' : Nat} (I : Inv X pins σ H s) (k : ∀ b u, s.heap.get? b = some u → h'.get? b = some u) (hp : s.heap.objs.size ≤ a) (new : ObjOk X.prog X.w (upd H a o) h' a o) :
    Inv X pins σ (upd H a o) { s with heap := h', toks := t' } := I.un (Un.laid k hp (I.hok.fresh hp)) (I.hok.laid k hp new)
theorem Inv.write {x e : Addr} {o : HO} {t' : Nat} (I : Inv X pins σ H s) (mu : Mut (H x)) (he : e = x ∨ H e = some (.own x)) (k : ∀ b u, b ≠ e → s.heap.get? b = some u → h'.get? b = some u) (heo : ∃ u, h'.get? e = some u)
    (new : ObjOk X.prog X.w (upd H x o) h' x o) : Inv X pins σ (upd H x o) { s with heap := h', toks := t' } := I.un (Un.write mu he k heo) (I.hok.write mu he k heo new)
theorem Inv.weak {σ' : List (Option V)} (I : Inv X pins σ H s) (hl : σ'.length = σ.length) (w : ∀ (i : Nat) v, σ'[i]? = some (some v) → σ[i]? = some (some v)) : Inv X pins σ' H s :=
  ⟨I.ok, I.os, I.bare, I.base, let ⟨m, hn, hl'⟩ := I.loc; ⟨m, hn, fun i x v e1 e2 e3 => hl' i x v e1 (w i v e2) e3⟩, I.cell, I.free, I.freeC, I.pin, I.hok, hl.trans I.len⟩
theorem Inv.pins_of {pins' : List (Addr × Obj)} (I : Inv X pins σ H s) (h : ∀ p ∈ pins', s.heap.get? p.1 = some p.2 ∧ H p.1 = none ∧ p.1 ≠ X.env.locals ∧ p.1 ∉ X.fs ∧ ∀ v, p.2.data ≠ .cell v) : Inv X pins' σ H s :=
  ⟨I.ok, I.os, I.bare, I.base, I.loc, I.cell, I.free, I.freeC, fun p hp => (List.mem_append.mp hp).elim (fun z => I.pin p (List.mem_append_left _ z)) (h p), I.hok, I.len⟩
theorem nodup_ix {N : List Str} (hN : N.Nodup) {i j : Nat} {x : Str} (a : N[i]? = some x) (b : N[j]? = some x) : i = j := by
  obtain ⟨h1, e1⟩ := List.getElem?_eq_some_iff.mp a
  obtain ⟨h2, e2⟩ := List.getElem?_eq_some_iff.mp b
  exact (List.getElem_inj hN).mp (e1.trans e2.symm)
theorem store_ok2 {M : Model} {A : Around} {E : Value → Shared → Prop} {i : Nat} {x : Str} {v : V} {u : Value} {Q : Unit → Shared → Prop} (I : Inv X pins σ H s) (hN : X.N.Nodup) (hi : X.N[i]? = some x) (hx : Loc X.env.scope x) (r : RelV v u)
    (h : ∀ s', Inv X pins (σ.set i (some v)) H s' → (∃ a, Heap.SameBut a s.heap s'.heap ∧ (a = X.env.locals ∨ X.env.cells.lookup x = some a)) → Q () s') (hf : X.fn x = true ∨ X.env.scope.names.lookup x = some .local := by first | exact .inl rfl | exact .inr rfl | assumption) : wpAny M A (storeName X.env x u) Q E s := by
  obtain ⟨m, hn, hl⟩ := id I.loc
  have hcls : (X.env.scope.kind == .class || (X.env.scope.kind == .module && X.env.locals != X.env.globals)) = false := by rw [I.ok.kind]; rfl
  have hiσ : i < σ.length := by rw [I.len]; exact (List.getElem?_eq_some_iff.mp hi).1
  have cne := I.cne
  have tracked : ∀ {a : Addr} {h' : Heap}, (∃ o, s.heap.get? a = some o ∧ H a = none) → Heap.SameBut a s.heap h' → HOk X.prog X.w H h' := fun {a h'} ha hs b ob e => by
    obtain ⟨_, _, hfree⟩ := ha
    refine (I.hok b ob e).stay (fun c w' hc q => (hs.2 c ?_).trans q) (fun _ q => q) fun _ _ q => q
    rintro rfl
    rcases hc with rfl | hc
    · rw [hfree] at e; cases e
    · rw [hfree] at hc; cases hc
  rcases hx with hk | hk
  · refine wpAny_storeName_local hk hn (fun h' hn' hs => ?_) hcls
    obtain ⟨oL, _, _, hoL, _⟩ := id hn
    refine h _ ⟨I.ok, I.os, I.bare, ⟨fun b o e n hb hx => ?_, fun b o e n hb hx => ?_, I.base.free, fun b o e hx => ?_, I.base.tups, I.base.frzs, I.base.tbls⟩, ⟨_, hn', fun j y v' e1 e2 e3 => ?_⟩, fun y c e => ?_, I.free, I.freeC, fun p hp => ?_, tracked ⟨oL, hoL, I.free⟩ hs, by simpa using I.len⟩ ⟨_, hs, .inl rfl⟩
    · exact (hs.2 b (Nat.ne_of_lt (Nat.lt_of_lt_of_le (Heap.lt_size e) I.ok.above))).trans (I.base.keep b o e n hb hx)
    · obtain ⟨sl, e1⟩ := I.base.slot b o e n hb hx
      exact ⟨sl, (hs.2 b (Nat.ne_of_lt (Nat.lt_of_lt_of_le (Heap.lt_size e) I.ok.above))).trans e1⟩
    · obtain ⟨o', e1⟩ := I.base.there b o e hx
      exact ⟨o', (hs.2 b (Nat.ne_of_lt (Nat.lt_of_lt_of_le (Heap.lt_size e) I.ok.above))).trans e1⟩
    · by_cases hj : j = i
      · subst hj
        rw [hi] at e1; cases e1
        rw [List.getElem?_set_self hiσ] at e2
        cases e2
        exact ⟨u, r, .inl ⟨hk, by simp⟩⟩
      · rw [List.getElem?_set_ne (Ne.symm hj)] at e2
        obtain ⟨u', r', q⟩ := hl j y v' e1 e2 e3
        refine ⟨u', r', ?_⟩
        rcases q with ⟨k, e⟩ | ⟨k, c, e, z⟩
        · refine .inl ⟨k, ?_⟩
          have : y ≠ x := fun e => hj (nodup_ix hN e1 (e ▸ hi))
          simp [this, e]
        · exact .inr ⟨k, c, e, z.sameBut hs (cne y c e)⟩
    · obtain ⟨w', z⟩ := I.cell y c e
      exact ⟨w', z.sameBut hs (cne y c e)⟩
    · obtain ⟨e, n, ne, nf, d⟩ := I.pin p hp
      exact ⟨(hs.2 p.1 ne).trans e, n, ne, nf, d⟩
  · have hfn : X.fn x = true := by
      rcases hf with z | z
      · exact z
      · rw [z] at hk; cases hk
    obtain ⟨c, hc⟩ := I.ok.has x (.inl hk)
    obtain ⟨w', z⟩ := I.cell x c hc
    refine wpAny_storeName_cell I.ok.kind hk hc z (fun h' hc' hs => ?_)
    obtain ⟨oc, hoc, hocd⟩ := id z
    refine h { s with heap := h' } ⟨I.ok, I.os, I.bare, ⟨fun b o e n hb hx => ?_, fun b o e n hb hx => ?_, I.base.free, fun b o e hx => ?_, I.base.tups, I.base.frzs, I.base.tbls⟩, ⟨m, hn.sameBut hs (Ne.symm (cne x c hc)), fun j y v' e1 e2 e3 => ?_⟩, fun y c' e => ?_, I.free, I.freeC, fun p hp => ?_, tracked ⟨oc, hoc, I.freeC x c hc⟩ hs, by simpa using I.len⟩ ⟨c, hs, .inr hc⟩
    · exact (hs.2 b (Nat.ne_of_lt (Nat.lt_of_lt_of_le (Heap.lt_size e) (I.ok.cab x c hfn hc)))).trans (I.base.keep b o e n hb hx)
    · obtain ⟨sl, e1⟩ := I.base.slot b o e n hb hx
      exact ⟨sl, (hs.2 b (Nat.ne_of_lt (Nat.lt_of_lt_of_le (Heap.lt_size e) (I.ok.cab x c hfn hc)))).trans e1⟩
    · obtain ⟨o', e1⟩ := I.base.there b o e hx
      exact ⟨o', (hs.2 b (Nat.ne_of_lt (Nat.lt_of_lt_of_le (Heap.lt_size e) (I.ok.cab x c hfn hc)))).trans e1⟩
    · by_cases hj : j = i
      · subst hj
        rw [hi] at e1; cases e1
        rw [List.getElem?_set_self hiσ] at e2
        cases e2
        exact ⟨u, r, .inr ⟨.inl hk, c, hc, hc'⟩⟩
      · rw [List.getElem?_set_ne (Ne.symm hj)] at e2
        obtain ⟨u', r', q⟩ := hl j y v' e1 e2 e3
        refine ⟨u', r', ?_⟩
        rcases q with q | ⟨k, c', e, z'⟩
        · exact .inl q
        · refine .inr ⟨k, c', e, z'.sameBut hs ?_⟩
          rintro rfl
          exact hj (nodup_ix hN e1 (I.ok.inj _ _ _ e hc ▸ hi))
    · by_cases hcc : c' = c
      · subst hcc; exact ⟨_, hc'⟩
      · obtain ⟨w2, z2⟩ := I.cell y c' e
        exact ⟨w2, z2.sameBut hs hcc⟩
    · obtain ⟨e, n, ne, nf, d⟩ := I.pin p hp
      refine ⟨(hs.2 p.1 ?_).trans e, n, ne, nf, d⟩
      intro q
      rw [q, hoc] at e
      have q' : oc = p.2 := Option.some.inj e
      exact d w' (by rw [← q']; exact hocd)
theorem store_ok {M : Model} {A : Around} {E : Value → Shared → Prop} {i : Nat} {x : Str} {v : V} {u : Value} {Q : Unit → Shared → Prop} (I : Inv X pins σ H s) (hN : X.N.Nodup) (hi : X.N[i]? = some x) (hx : Loc X.env.scope x) (r : RelV v u)
    (h : ∀ s', Inv X pins (σ.set i (some v)) H s' → Q () s') (hf : X.fn x = true ∨ X.env.scope.names.lookup x = some .local := by first | exact .inl rfl | exact .inr rfl | assumption) : wpAny M A (storeName X.env x u) Q E s :=
  store_ok2 I hN hi hx r (fun s' I' _ => h s' I') hf
theorem Inv.call' {s' : Shared} {ch : List Addr} (I : Inv X pins σ H s) (ho : s'.os = s.os) (u : Un (frs X.stack) ch H H' s.heap s'.heap) (hok : HOk X.prog X.w H' s'.heap) (hg : AllBare s'.gens)
    (hch : ∀ b ∈ ch, (b ∈ X.ex ∨ X.s_0.heap.objs.size ≤ b) ∧ b ≠ X.env.locals ∧ (∀ x c, X.env.cells.lookup x = some c → c ≠ b) ∧ ∀ p ∈ X.pn ++ pins, p.1 ≠ b) : Inv X pins σ H' s' := by
  obtain ⟨h', g', d', t', o'⟩ := s'
  have e : o' = s.os := ho
  subst e
  exact I.call (g' := g') (t' := t') (d' := d') u hok hg hch
end
abbrev XK := Value → Option Addr → Hp → Prop
abbrev St := List (Option V)
abbrev VK := V → Hp → Prop
abbrev TE := St → Hp → VK → Prop
abbrev TT := St → Hp → (Bool → Hp → Prop) → Prop
abbrev TA := St → Hp → (List V → Hp → Prop) → Prop
structure Ends where
  nx : St → Hp → Prop
  rt : VK
  bk : St → Hp → Prop := fun _ _ => False
  ct : St → Hp → Prop := fun _ _ => False
abbrev TS := Ends → St → Hp → Prop
def EP (X : Cx) (pins : List (Addr × Obj)) (σ : St) (Q : VK) (u : Value) (s' : Shared) : Prop := ∃ v H', Inv X pins σ H' s' ∧ RelV v u ∧ Q v H'
def TP (X : Cx) (pins : List (Addr × Obj)) (σ : St) (Q : Bool → Hp → Prop) (b : Bool) (s' : Shared) : Prop := ∃ H', Inv X pins σ H' s' ∧ Q b H'
def AP (X : Cx) (pins : List (Addr × Obj)) (σ : St) (Q : List V → Hp → Prop) (us : List Value) (s' : Shared) : Prop := ∃ vs H', Inv X pins σ H' s' ∧ Vals vs us ∧ Q vs H'
def SP (X : Cx) (pins : List (Addr × Obj)) (D : Ends) (f : Flow) (s' : Shared) : Prop :=
  match f with
  | .next => ∃ σ' H', Inv X pins σ' H' s' ∧ D.nx σ' H'
  | .brk => ∃ σ' H', Inv X pins σ' H' s' ∧ D.bk σ' H'
  | .cont => ∃ σ' H', Inv X pins σ' H' s' ∧ D.ct σ' H'
  | .ret u => ∃ v σ' H', Inv X pins σ' H' s' ∧ RelV v u ∧ D.rt v H'
def PE (X : Cx) (e : Expr) (t : TE) : Prop :=
  ∀ (pins : List (Addr × Obj)) (s : Shared) (σ : St) (H : Hp) (Q : VK), Inv X pins σ H s → t σ H Q → wpAny (model X.prog X.w) X.A (eval e X.env) (EP X pins σ Q) X.xe s
def PT (X : Cx) (e : Expr) (t : TT) : Prop :=
  ∀ (pins : List (Addr × Obj)) (s : Shared) (σ : St) (H : Hp) (Q : Bool → Hp → Prop), Inv X pins σ H s → t σ H Q → wpAny (model X.prog X.w) X.A (isTrue e X.env (eval e X.env)) (TP X pins σ Q) X.xe s
def PW (X : Cx) (e : Expr) (t : TT) : Prop :=
  ∀ (whole : Sem Value) (pins : List (Addr × Obj)) (s : Shared) (σ : St) (H : Hp) (Q : Bool → Hp → Prop), Inv X pins σ H s → t σ H Q → wpAny (model X.prog X.w) X.A (isTrue e X.env whole) (TP X pins σ Q) X.xe s
theorem PW.pt {X : Cx} {e : Expr} {t : TT} (h : PW X e t) : PT X e t := h _
def PA (X : Cx) (es : List Expr) (t : TA) : Prop :=
  ∀ (pos : Pos) (pins : List (Addr × Obj)) (s : Shared) (σ : St) (H : Hp) (Q : List V → Hp → Prop), Inv X pins σ H s → t σ H Q → wpAny (model X.prog X.w) X.A (spliced (backTo pos (starEach es X.env))) (AP X pins σ Q) X.xe s
def PS (X : Cx) (st : Stmt) (t : TS) : Prop :=
  ∀ (pins : List (Addr × Obj)) (s : Shared) (σ : St) (H : Hp) (D : Ends), Inv X pins σ H s → t D σ H → wpAny (model X.prog X.w) X.A (exec st X.env) (SP X pins D) X.xe s
def PSs (X : Cx) (st : List Stmt) (t : TS) : Prop :=
  ∀ (pins : List (Addr × Obj)) (s : Shared) (σ : St) (H : Hp) (D : Ends), Inv X pins σ H s → t D σ H → wpAny (model X.prog X.w) X.A (execs st X.env) (SP X pins D) X.xe s
theorem thn {α : Type} {t : Sem α} {Q Q' : α → Shared → Prop} {M : Model} {A : Around} {E : Value → Shared → Prop} {s : Shared} (h : wpAny M A t Q E s) (hQ : ∀ a s, Q a s → Q' a s) : wpAny M A t Q' E s := wpAny_mono h hQ fun _ _ x => x
end L2
namespace L2
open PySem PySem.Spec PyProof.Rows
section
variable {X : Cx}
def tVar (i : Nat) : TE := fun σ H Q => ∃ v, σ[i]? = some (some v) ∧ Q v H
def tC (v : V) : TE := fun _ H Q => Q v H
theorem pe_var {i : Nat} {x : Str} {pos : Pos} (hN : X.N[i]? = some x) (hv : Vis X.env.scope x) (hd : (x == ("__debug__" : Str)) = false := by decide) (hcd : (x == ("__classdict__" : Str)) = false := by decide) : PE X (.Name x pos) (tVar i) := by
  intro pins s σ H Q I h
  obtain ⟨v, e, h⟩ := h
  obtain ⟨m, hn, hl⟩ := I.loc
  obtain ⟨u, r, l⟩ := hl i x v hN e hv
  have fin : EP X pins σ Q u s := ⟨v, H, I, r, h⟩
  rcases l with ⟨hk, hm⟩ | ⟨hk, c, hc, hcell⟩
  · exact wpAny_Name (wpAny_loadName_local I.ok.kind hk hn hm fin) hd
  · rcases hk with hk | hk
    · exact wpAny_Name (wpAny_loadName_cell I.ok.kind hk hc hcell fin) hd
    · exact wpAny_Name (wpAny_loadName_free I.ok.kind hk hc hcell fin hcd) hd
theorem pe_int {i j pos} : PE X (.Constant (.int i) j pos) (tC (.int i)) := fun _ _ _ H _ I h => wpAny_Constant_int ⟨.int i, H, I.tok _, ⟨_, rfl⟩, h⟩
theorem pe_bl {b j pos} : PE X (.Constant (.bool b) j pos) (tC (.bl b)) := fun _ _ _ H _ I h => Constant_bool ⟨.bl b, H, I, rfl, h⟩
theorem pe_non {j pos} : PE X (.Constant .none j pos) (tC .non) := fun _ _ _ H _ I h => Constant_none ⟨.non, H, I, rfl, h⟩
theorem pe_str {x j pos} : PE X (.Constant (.str x) j pos) (tC (.str x)) := fun _ _ _ H _ I h => Calls.Constant_str ⟨.str x, H, I.tok _, ⟨_, rfl⟩, h⟩
def Gl (X : Cx) (x : Str) : Prop := X.env.kindOf x = some .globalImplicit
theorem ld_glob {E : Value → Shared → Prop} {pins : List (Addr × Obj)} {s : Shared} {σ : St} {H : Hp} {x : Str} {u : Value} {pos : Pos} {Q : Value → Shared → Prop} (I : Inv X pins σ H s) (hg : Gl X x) (hm : X.mg x = some u) (h : Q u s)
    (hd : (x == ("__debug__" : Str)) = false := by decide) : wpAny (model X.prog X.w) X.A (eval (.Name x pos) X.env) Q E s :=
  Calls.Name_function_global I.ok.kind hg (Calls.loadGlobal_global (by rw [I.ok.glob]; exact I.mod.glob.keeps I.bk) hm h) hd
theorem ld_blt {E : Value → Shared → Prop} {pins : List (Addr × Obj)} {s : Shared} {σ : St} {H : Hp} {x : Str} {u : Value} {pos : Pos} {Q : Value → Shared → Prop} (I : Inv X pins σ H s) (hg : Gl X x) (hm : X.mg x = none) (hv : bootBuiltins x = some u) (h : Q u s)
    (hn : x ≠ "__name__" := by decide) (hd : (x == ("__debug__" : Str)) = false := by decide) : wpAny (model X.prog X.w) X.A (eval (.Name x pos) X.env) Q E s := by
  obtain ⟨mb, h1, h2⟩ := I.mod.blt
  exact Calls.Name_function_global I.ok.kind hg (Calls.loadGlobal_builtin (by rw [I.ok.glob]; exact I.mod.glob.keeps I.bk) hm (by rw [I.ok.blt]; exact h1.keeps I.bk) ((h2 x hn).trans hv) h) hd
theorem pe_glob {x : Str} {v : V} {u : Value} {pos : Pos} (hg : Gl X x) (hm : X.mg x = some u) (r : RelV v u) (hd : (x == ("__debug__" : Str)) = false := by decide) : PE X (.Name x pos) (tC v) :=
  fun _ _ _ H _ I h => ld_glob I hg hm ⟨v, H, I, r, h⟩ hd
theorem pe_bltn {x : Str} {v : V} {u : Value} {pos : Pos} (hg : Gl X x) (hm : X.mg x = none) (hv : bootBuiltins x = some u) (r : RelV v u) (hn : x ≠ "__name__" := by decide) (hd : (x == ("__debug__" : Str)) = false := by decide) : PE X (.Name x pos) (tC v) :=
  fun _ _ _ H _ I h => ld_blt I hg hm hv ⟨v, H, I, r, h⟩ hn hd
variable {a b : Expr} {ta tb : TE} {pos : Pos}
def tB (t : TE) : TT := fun σ H Q => t σ H fun x H1 => ∃ c, x = .bl c ∧ Q c H1
theorem pt_val {e : Expr} {t : TE} (h : PE X e t) (he : ∀ whole, isTrue e X.env whole = (do let v ← whole; standAt e.pos; holding [v] (truthy v)) := by intro _; rfl) : PT X e (tB t) := by
  intro pins s σ H Q I hw
  refine isTrue_plain (thn (h pins s σ H _ I hw) fun v s1 ⟨x, H1, I1, r1, q1⟩ => ?_) (he _)
  obtain ⟨d, rfl, q⟩ := q1
  cases r1
  exact wpAny_truthy_bool ⟨H1, I1, q⟩
variable {tA tB' : TT} {rest : List Expr}
def tAnd (t u : TT) : TT := fun σ H Q => t σ H fun c H1 => if c = true then u σ H1 Q else Q false H1
def tOr (t u : TT) : TT := fun σ H Q => t σ H fun c H1 => if c = true then Q true H1 else u σ H1 Q
def tNot (t : TT) : TT := fun σ H Q => t σ H fun c H1 => Q (!c) H1
theorem pw_and1 (ha : PT X a tA) : PW X (.BoolOp .And [a] pos) tA := by
  intro wh pins s σ H Q I h
  refine isTrue_and (thn (ha pins s σ H Q I h) fun c s1 e => ?_)
  cases c with
  | true => exact isTrue_and_nil e
  | false => exact e
theorem pw_or1 (ha : PT X a tA) : PW X (.BoolOp .Or [a] pos) tA := by
  intro wh pins s σ H Q I h
  refine isTrue_or (thn (ha pins s σ H Q I h) fun c s1 e => ?_)
  cases c with
  | false => exact isTrue_or_nil e
  | true => exact e
theorem pw_and (ha : PT X a tA) (hb : PW X (.BoolOp .And (b :: rest) pos) tB') : PW X (.BoolOp .And (a :: b :: rest) pos) (tAnd tA tB') := by
  intro wh pins s σ H Q I h
  refine isTrue_and (thn (ha pins s σ H _ I h) fun c s1 ⟨H1, I1, q1⟩ => ?_)
  cases c with
  | true => exact hb wh pins s1 σ H1 Q I1 q1
  | false => exact ⟨H1, I1, q1⟩
theorem pw_or (ha : PT X a tA) (hb : PW X (.BoolOp .Or (b :: rest) pos) tB') : PW X (.BoolOp .Or (a :: b :: rest) pos) (tOr tA tB') := by
  intro wh pins s σ H Q I h
  refine isTrue_or (thn (ha pins s σ H _ I h) fun c s1 ⟨H1, I1, q1⟩ => ?_)
  cases c with
  | true => exact ⟨H1, I1, q1⟩
  | false => exact hb wh pins s1 σ H1 Q I1 q1
theorem pt_not (ha : PT X a tA) : PT X (.UnaryOp .Not a pos) (tNot tA) := by
  intro pins s σ H Q I h
  exact isTrue_not (ha pins s σ H (fun c H1 => Q (!c) H1) I h)
def tAndV (ta tb : TE) : TE := fun σ H Q => ta σ H fun x H1 => ∃ c, x = .bl c ∧ if c = true then tb σ H1 Q else Q (.bl false) H1
def tNotV (ta : TE) : TE := fun σ H Q => ta σ H fun x H1 => ∃ c, x = .bl c ∧ Q (.bl (!c)) H1
theorem pe_one {op} {t : TE} (h : PE X a t) : PE X (.BoolOp op [a] pos) t := fun pins s σ H Q I hw => BoolOp_one (h pins s σ H Q I hw)
theorem pe_and (ha : PE X a ta) (hb : PE X (.BoolOp .And (b :: rest) pos) tb) : PE X (.BoolOp .And (a :: b :: rest) pos) (tAndV ta tb) := by
  intro pins s σ H Q I h
  refine BoolOp_and (thn (ha pins s σ H _ I h) fun v s1 ⟨x, H1, I1, r1, q1⟩ => ?_)
  obtain ⟨c, rfl, q1⟩ := q1
  cases r1
  refine wpAny_truthy_bool ?_
  cases c with
  | true => exact hb pins s1 σ H1 Q I1 q1
  | false => exact ⟨.bl false, H1, I1, rfl, q1⟩
theorem pe_not (ha : PE X a ta) : PE X (.UnaryOp .Not a pos) (tNotV ta) := by
  intro pins s σ H Q I h
  refine UnaryOp_ (thn (ha pins s σ H _ I h) fun v s1 ⟨x, H1, I1, r1, q1⟩ => ?_)
  obtain ⟨c, rfl, q1⟩ := q1
  cases r1
  exact not_of (wpAny_truthy_bool ⟨.bl (!c), H1, I1, rfl, q1⟩)
def tIf (t : TT) (ta tb : TE) : TE := fun σ H Q => t σ H fun c H1 => if c = true then ta σ H1 Q else tb σ H1 Q
theorem pe_ifExp {c : Expr} (hc : PT X c tA) (ha : PE X a ta) (hb : PE X b tb) : PE X (.IfExp c a b pos) (tIf tA ta tb) := by
  intro pins s σ H Q I h
  refine wpAny_IfExp (thn (hc pins s σ H _ I h) fun d s1 ⟨H1, I1, q1⟩ => ?_)
  cases d with
  | true => exact ha pins s1 σ H1 Q I1 q1
  | false => exact hb pins s1 σ H1 Q I1 q1
end
end L2
namespace L2
open PySem PySem.Spec PyProof.Rows
def SqL (K : PySem.W.Frag) (H : Hp) (a : Addr) (xs : List V) : Prop :=
  Rd H a (.lst xs) ∨
    ∃ (o : Obj) (its : Array Value) (n : Nat), K.lookup a = some o ∧ o.cls = .type "list" ∧ o.dict = none ∧ o.data = .seq its n ∧ its.size ≤ sizeLine ∧ Vals xs its.toList
def SqT (K : PySem.W.Frag) (H : Hp) (a : Addr) (xs : List V) : Prop :=
  Rd H a (.tup xs) ∨
    ∃ (o : Obj) (its : Array Value) (n : Nat), K.lookup a = some o ∧ o.cls = .type "tuple" ∧ o.data = .seq its n ∧ its.size ≤ sizeLine ∧ Vals xs its.toList
def absV : Value → Option V
  | .none => some .non
  | .bool b => some (.bl b)
  | .int i _ => some (.int i)
  | .str x _ => some (.str x)
  | .bytes b _ => some (.byt b)
  | .float b _ => some (.flt b)
  | .ref a => some (.ref a)
  | .type n => some (.ty n)
  | _ => none
theorem RelV.abs {x : V} {u : Value} (r : RelV x u) : absV u = some x := by
  cases x with
  | non => cases r; rfl
  | bl _ => cases r; rfl
  | int _ => obtain ⟨t, rfl⟩ := r; rfl
  | str _ => obtain ⟨t, rfl⟩ := r; rfl
  | byt _ => obtain ⟨t, rfl⟩ := r; rfl
  | flt _ => obtain ⟨t, rfl⟩ := r; rfl
  | ref _ => cases r; rfl
  | ty _ => cases r; rfl
theorem RelV.inj {x y : V} {u : Value} (r : RelV x u) (q : RelV y u) : x = y := Option.some.inj (r.abs.symm.trans q.abs)
theorem Vals.inj : ∀ {xs ys : List V} {us : List Value}, Vals xs us → Vals ys us → xs = ys
  | _, _, _, .nil, .nil => rfl
  | _, _, _, .cons r t, .cons r' t' => by rw [r.inj r', Vals.inj t t']
section
variable {X : Cx} {pins : List (Addr × Obj)} {σ : St} {H : Hp} {s : Shared} {a : Addr} {xs ys : List V}
theorem SqL.of {K : PySem.W.Frag} (h : H a = some (.lst xs)) : SqL K H a xs := .inl (.inl h)
theorem SqT.of {K : PySem.W.Frag} (h : H a = some (.tup xs)) : SqT K H a xs := .inl (.inl h)
theorem Inv.list (I : Inv X pins σ H s) (h : SqL X.K H a xs) : ∃ its : List Value, Vals xs its ∧ PlainL s.heap a its.toArray ∧ xs.length ≤ sizeLine := by
  rcases h with h | ⟨o, its, n, hk, hc, hd, hs, hz, r⟩
  · obtain ⟨z, its, n, r, e⟩ := h.ok I.hok
    exact ⟨its, r, ⟨_, n, e, rfl, rfl, rfl⟩, z⟩
  · refine ⟨its.toList, r, ⟨o, n, I.kIn a o hk, hc, hd, by simpa using hs⟩, ?_⟩
    have e := r.length
    simp only [Array.length_toList] at e
    omega
theorem Inv.tuple (I : Inv X pins σ H s) (h : SqT X.K H a xs) : ∃ its : List Value, Vals xs its ∧ IsTup s.heap a its.toArray ∧ xs.length ≤ sizeLine := by
  rcases h with h | ⟨o, its, n, hk, hc, hs, hz, r⟩
  · obtain ⟨z, its, r, p⟩ := h.ok I.hok
    exact ⟨its, r, p, z⟩
  · refine ⟨its.toList, r, ⟨o, I.kIn a o hk, hc, n, by simpa using hs⟩, ?_⟩
    have e := r.length
    simp only [Array.length_toList] at e
    omega
theorem Inv.list_inj (I : Inv X pins σ H s) (h : SqL X.K H a xs) (h' : SqL X.K H a ys) : xs = ys := by
  obtain ⟨its, r, ⟨o, n, e, _, _, d⟩, _⟩ := I.list h
  obtain ⟨its', r', ⟨o', n', e', _, _, d'⟩, _⟩ := I.list h'
  rw [e] at e'; cases e'
  rw [d] at d'
  injection d' with d1 _
  have : its = its' := by simpa using congrArg Array.toList d1
  subst this
  exact r.inj r'
end
abbrev Cx.wish (X : Cx) (E : Value → Shared → Prop) : Cx := { X with xe := E }
abbrev Cx.nox (X : Cx) : Cx := X.wish fun _ _ => False
theorem Cx.Ok.wish {X : Cx} (ok : X.Ok) (E : Value → Shared → Prop) : (X.wish E).Ok :=
  ⟨ok.mod, ok.kind, ok.glob, ok.blt, ok.above, ok.inj, ok.has, ok.cab, ok.hd, ok.frames, ok.stk, ok.exf, ok.bs, ok.bsz, ok.noex, ok.exfs, ok.funs, ok.frf⟩
theorem Cx.Ok.unwish {X : Cx} {E : Value → Shared → Prop} (ok : (X.wish E).Ok) : X.Ok :=
  ⟨ok.mod, ok.kind, ok.glob, ok.blt, ok.above, ok.inj, ok.has, ok.cab, ok.hd, ok.frames, ok.stk, ok.exf, ok.bs, ok.bsz, ok.noex, ok.exfs, ok.funs, ok.frf⟩
section
variable {X : Cx} {pins : List (Addr × Obj)} {σ : St} {H : Hp} {s : Shared} {E : Value → Shared → Prop}
theorem Inv.wish (I : Inv X pins σ H s) (E : Value → Shared → Prop) : Inv (X.wish E) pins σ H s := ⟨I.ok.wish E, I.os, I.bare, I.base, I.loc, I.cell, I.free, I.freeC, I.pin, I.hok, I.len⟩
theorem Inv.unwish (I : Inv (X.wish E) pins σ H s) : Inv X pins σ H s := ⟨I.ok.unwish, I.os, I.bare, I.base, I.loc, I.cell, I.free, I.freeC, I.pin, I.hok, I.len⟩
theorem SP.unwish {D : Ends} {f : Flow} {s' : Shared} (h : SP (X.wish E) pins D f s') : SP X pins D f s' := by
  cases f with
  | next => obtain ⟨σ', H', I, q⟩ := h; exact ⟨σ', H', I.unwish, q⟩
  | brk => obtain ⟨σ', H', I, q⟩ := h; exact ⟨σ', H', I.unwish, q⟩
  | cont => obtain ⟨σ', H', I, q⟩ := h; exact ⟨σ', H', I.unwish, q⟩
  | ret u => obtain ⟨v, σ', H', I, r, q⟩ := h; exact ⟨v, σ', H', I.unwish, r, q⟩
theorem PE.nox {e : Expr} {t : TE} (h : PE X.nox e t) : PE X e t := fun pins s σ H Q I hw =>
  wpAny_mono (h pins s σ H Q (I.wish _) hw) (fun _ _ ⟨v, H', I', r, q⟩ => ⟨v, H', I'.unwish, r, q⟩) fun _ _ z => False.elim z
theorem PT.nox {e : Expr} {t : TT} (h : PT X.nox e t) : PT X e t := fun pins s σ H Q I hw =>
  wpAny_mono (h pins s σ H Q (I.wish _) hw) (fun _ _ ⟨H', I', q⟩ => ⟨H', I'.unwish, q⟩) fun _ _ z => False.elim z
theorem PSs.nox {st : List Stmt} {t : TS} (h : PSs X.nox st t) : PSs X st t := fun pins s σ H D I hw =>
  wpAny_mono (h pins s σ H D (I.wish _) hw) (fun _ _ q => q.unwish) fun _ _ z => False.elim z
end
section
variable {X : Cx} {st : Stmt} {rest : List Stmt} {t u : TS} {e : Expr} {te : TE} {pos : Pos}
def tNext : TS := fun D σ H => D.nx σ H
def tSeq (t u : TS) : TS := fun D σ H => t { D with nx := u D } σ H
theorem pss_nil : PSs X [] tNext := fun _ _ σ H _ I h => wpAny_execs_nil ⟨σ, H, I, h⟩
theorem pss_cons (h1 : PS X st t) (h2 : PSs X rest u) : PSs X (st :: rest) (tSeq t u) := by
  intro pins s σ H D I h
  refine wpAny_execs_cons (thn (h1 pins s σ H { D with nx := u D } I h) fun f s1 q => ?_)
  cases f with
  | next =>
    obtain ⟨σ', H', I', q⟩ := q
    exact h2 pins s1 σ' H' D I' q
  | ret v => exact q
  | brk => exact q
  | cont => exact q
theorem pss_one (h1 : PS X st t) : PSs X [st] t := by
  intro pins s σ H D I h
  refine wpAny_execs_cons (thn (h1 pins s σ H D I h) fun f s1 q => ?_)
  cases f with
  | next => exact wpAny_execs_nil q
  | ret v => exact q
  | brk => exact q
  | cont => exact q
theorem Inv.quiet {pins : List (Addr × Obj)} {σ : St} {H : Hp} {s : Shared} (I : Inv X pins σ H s) : interactive X.env = false := by simp [interactive, I.ok.kind]
def tDrop (te : TE) : TS := fun D σ H => te σ H fun _ H1 => D.nx σ H1
theorem ps_expr (he : PE X e te) (hs : swapsWith e none pos.line X.env = pure false := by rfl) : PS X (.Expr e pos) (tDrop te) := by
  intro pins s σ H D I h
  exact wpAny_Expr_any (thn (he pins s σ H _ I h) fun v s1 ⟨x, H1, I1, r1, q1⟩ => ⟨σ, H1, I1, q1⟩) I.quiet hs
def tRet (te : TE) : TS := fun D σ H => te σ H D.rt
theorem ps_ret (he : PE X e te) : PS X (.Return (some e) pos) (tRet te) := by
  intro pins s σ H D I h
  exact wpAny_Return_some (thn (he pins s σ H _ I h) fun v s1 ⟨x, H1, I1, r1, q1⟩ => ⟨x, σ, H1, I1, r1, q1⟩)
def tIfS (c : TT) (t u : TS) : TS := fun D σ H => c σ H fun b H1 => if b = true then t D σ H1 else u D σ H1
theorem ps_if {c : Expr} {a b : List Stmt} {tc : TT} (hc : PT X c tc) (ha : PSs X a t) (hb : PSs X b u) : PS X (.If c a b pos) (tIfS tc t u) := by
  intro pins s σ H D I h
  refine wpAny_If (thn (hc pins s σ H _ I h) fun d s1 ⟨H1, I1, q1⟩ => ?_)
  cases d with
  | true => exact ha pins s1 σ H1 D I1 q1
  | false => exact hb pins s1 σ H1 D I1 q1
def tNever : TS := fun _ _ _ => False
theorem ps_never : PS X st tNever := fun _ _ _ _ _ _ h => h.elim
end
abbrev TG := V → St → Hp → (St → Hp → Prop) → Prop
abbrev TGs := List V → St → Hp → (St → Hp → Prop) → Prop
def PG (X : Cx) (target : Expr) (t : TG) : Prop :=
  ∀ (pins : List (Addr × Obj)) (s : Shared) (σ : St) (H : Hp) (v : V) (u : Value) (Q : St → Hp → Prop), Inv X pins σ H s → RelV v u → t v σ H Q →
    wpAny (model X.prog X.w) X.A (assign target X.env u) (fun _ s' => ∃ σ' H', Inv X pins σ' H' s' ∧ Q σ' H') X.xe s
def PGs (X : Cx) (ts : List Expr) (t : TGs) : Prop :=
  ∀ (pins : List (Addr × Obj)) (s : Shared) (σ : St) (H : Hp) (vs : List V) (us : List Value) (Q : St → Hp → Prop), Inv X pins σ H s → Vals vs us → t vs σ H Q →
    wpAny (model X.prog X.w) X.A (assignInOrder ((assignEach ts X.env).map (·.2)) us) (fun _ s' => ∃ σ' H', Inv X pins σ' H' s' ∧ Q σ' H') X.xe s
abbrev TSet := V → V → V → Hp → (Hp → Prop) → Prop
def PSet (X : Cx) (t : TSet) : Prop :=
  ∀ (pins : List (Addr × Obj)) (s : Shared) (σ : St) (H : Hp) (o i v : V) (ov iv u : Value) (Q : Hp → Prop), Inv X pins σ H s → RelV o ov → RelV i iv → RelV v u → t o i v H Q →
    wpAny (model X.prog X.w) X.A (setItem ov iv u) (fun _ s' => ∃ H', Inv X pins σ H' s' ∧ Q H') X.xe s
section
variable {X : Cx} {pos : Pos}
def gName (i : Nat) : TG := fun v σ H Q => Q (σ.set i (some v)) H
theorem pg_name {i : Nat} {x : Str} (hN : X.N.Nodup) (hi : X.N[i]? = some x) (hx : Loc X.env.scope x) (hf : X.fn x = true ∨ X.env.scope.names.lookup x = some .local := by first | exact .inl rfl | exact .inr rfl | assumption) : PG X (.Name x pos) (gName i) := by
  intro pins s σ H v u Q I r h
  exact wpAny_assign_Name (store_ok I hN hi hx r (fun s' I' => ⟨_, H, I', h⟩) hf)
def gNil : TGs := fun vs σ H Q => vs = [] ∧ Q σ H
def gCons (t : TG) (u : TGs) : TGs := fun vs σ H Q => ∃ v r, vs = v :: r ∧ t v σ H fun σ' H' => u r σ' H' Q
theorem pgs_nil : PGs X [] gNil := by
  intro pins s σ H vs us Q I r h
  obtain ⟨e, h⟩ := h
  subst e
  cases r
  exact assignInOrder_nil ⟨σ, H, I, h⟩
theorem pgs_cons {e : Expr} {es : List Expr} {t : TG} {u : TGs} (h1 : PG X e t) (h2 : PGs X es u)
    (hs : (assignEach (e :: es) X.env).map (·.2) = assign e X.env :: (assignEach es X.env).map (·.2) := by rfl) : PGs X (e :: es) (gCons t u) := by
  intro pins s σ H vs us Q I r h
  obtain ⟨v, vr, e1, h⟩ := h
  subst e1
  cases r with
  | cons r rr =>
    rw [hs]
    refine assignInOrder_cons (thn (h1 pins s σ H _ _ _ I r h) fun _ s1 ⟨σ1, H1, I1, q1⟩ => ?_)
    exact h2 pins s1 σ1 H1 _ _ Q I1 rr q1
def gTup (K : PySem.W.Frag) (n : Nat) (t : TGs) : TG := fun v σ H Q => ∃ a xs, v = .ref a ∧ SqT K H a xs ∧ xs.length = n ∧ t xs σ H Q
theorem pg_tup {es : List Expr} {k : Nat} {t : TGs} {n : Nat} (hc : X.calm = true) (h : PGs X es t)
    (hn : (assignEach es X.env).length = n := by rfl) (hst : (assignEach es X.env).findIdx? (·.1) = none := by rfl) : PG X (.Tuple es k pos) (gTup X.K n t) := by
  intro pins s σ H v u Q I r hw
  obtain ⟨a, xs, e1, hq, hl, hw⟩ := hw
  subst e1
  cases r
  obtain ⟨its, rv, ht, hz⟩ := I.tuple hq
  refine assign_Tuple_tuple (I.ok.hd hc) ht (by simp [hn, ← hl, rv.length]) hst fun h' hx => ?_
  have I1 : Inv X pins σ H { s with heap := h' } := I.kept (t' := s.toks) fun b o e => hx b o (Nat.ne_of_lt (Heap.lt_size e)) e
  exact h pins _ σ H xs _ Q I1 (by simpa using rv) hw
def gSub (to ti : TE) (t : TSet) : TG := fun v σ H Q => to σ H fun o H1 => ti σ H1 fun i H2 => t o i v H2 fun H3 => Q σ H3
theorem pg_sub {o i : Expr} {to ti : TE} {t : TSet} (ho : PE X o to) (hi : PE X i ti) (hs : PSet X t)
    (ha : ∀ v, assign (.Subscript o i pos) X.env v = (do
      let ov ← holding [v] (eval o X.env)
      let iv ← holding [v, ov] (eval i X.env)
      standAt pos
      holding [v, ov, iv] (setItem ov iv v)
      release [v, ov, iv] []) := by intro _; rfl) : PG X (.Subscript o i pos) (gSub to ti t) := by
  intro pins s σ H v u Q I r h
  rw [ha]
  refine wpAny_bind (wpAny_holding (thn (ho pins s σ H _ I h) fun ov s1 ⟨x, H1, I1, r1, q1⟩ => ?_))
  refine wpAny_bind (wpAny_holding (thn (hi pins s1 σ H1 _ I1 q1) fun iv s2 ⟨y, H2, I2, r2, q2⟩ => ?_))
  refine wpAny_bind (wpAny_standAt (wpAny_bind (wpAny_holding (thn (hs pins s2 σ H2 x y v ov iv u _ I2 r1 r2 r q2) fun _ s3 ⟨H3, I3, q3⟩ => ?_))))
  exact wpAny_release ⟨σ, H3, I3, q3⟩
def tAsg (te : TE) (g : TG) : TS := fun D σ H => te σ H fun x H1 => g x σ H1 D.nx
theorem ps_asg {tg e : Expr} {te : TE} {g : TG} (he : PE X e te) (hg : PG X tg g) (hs : swapsWithSole [tg] e pos.line X.env = pure false := by rfl) (hw : swappedStores [tg] e X.env = pure none := by rfl)
    (h1 : (assignEach [tg] X.env).map (·.2) = [assign tg X.env] := by rfl) : PS X (.Assign [tg] e pos) (tAsg te g) := by
  intro pins s σ H D I h
  refine wpAny_Assign_stores (thn (he pins s σ H _ I h) fun v s1 ⟨x, H1, I1, r1, q1⟩ => ?_) hs hw
  rw [h1]
  exact thn (hg pins s1 σ H1 x v _ I1 r1 q1) fun _ s2 q => q
theorem ps_set {i : Nat} {x : Str} {e : Expr} {te : TE} {pos' : Pos} (hN : X.N.Nodup) (hi : X.N[i]? = some x) (hx : Loc X.env.scope x) (he : PE X e te) (hs : swapsWith e (some (.Name x pos')) pos.line X.env = pure false := by rfl) (hf : X.fn x = true ∨ X.env.scope.names.lookup x = some .local := by first | exact .inl rfl | exact .inr rfl | assumption) :
    PS X (.Assign [.Name x pos'] e pos) (tAsg te (gName i)) := by
  intro pins s σ H D I h
  refine wpAny_Assign_Name (thn (he pins s σ H _ I h) fun v s1 ⟨y, H1, I1, r1, q1⟩ => ?_) hs
  exact store_ok I1 hN hi hx r1 (fun s2 I2 => ⟨_, H1, I2, q1⟩) hf
def tPar (i j : Nat) (ta : TA) : TS := fun D σ H => ta σ H fun vs H1 => ∃ v w, vs = [v, w] ∧ D.nx ((σ.set i (some v)).set j (some w)) H1
theorem ps_par {i j : Nat} {x y : Str} {a b : Expr} {ta : TA} {px py pt : Pos} {kt k2 pt2} (hc : X.calm = true) (hN : X.N.Nodup) (hi : X.N[i]? = some x) (hj : X.N[j]? = some y) (hij : i ≠ j)
    (hx : X.env.scope.names.lookup x = some .local) (hy : X.env.scope.names.lookup y = some .local) (ha : PA X [a, b] ta)
    (hw : swappedStores [.Tuple [.Name x px, .Name y py] kt pt] (.Tuple [a, b] k2 pt2) X.env = pure (some [x, y]))
    (hs : swapsWithSole [.Tuple [.Name x px, .Name y py] kt pt] (.Tuple [a, b] k2 pt2) pos.line X.env = pure false := by rfl) :
    PS X (.Assign [.Tuple [.Name x px, .Name y py] kt pt] (.Tuple [a, b] k2 pt2) pos) (tPar i j ta) := by
  intro pins s σ H D I h
  rw [exec_Assign_arm]
  refine wpAny_bind (wpAny_standAt ?_)
  rw [hs]
  refine wpAny_bind (wpAny_pure ?_)
  rw [if_neg (by decide)]
  refine wpAny_bind (Tuple_ (thn (ha _ pins s σ H _ I h) fun us s1 ⟨vs, H1, I1, r1, q1⟩ => ?_))
  obtain ⟨v, w, e1, q1⟩ := q1
  subst e1
  obtain ⟨u1, u2, rfl, rv, rw'⟩ : ∃ u1 u2, us = [u1, u2] ∧ RelV v u1 ∧ RelV w u2 := by
    cases r1 with
    | cons p q =>
      cases q with
      | cons p' q' =>
        cases q'
        exact ⟨_, _, rfl, p, p'⟩
  refine wpAny_newObj_type ?_ (by show 2 ≤ sizeLine; decide)
  have I2 : Inv X pins σ H1 { s1 with heap := s1.heap.push { cls := .type "tuple", data := .seq [u1, u2].toArray } } := I1.kept (t' := s1.toks) fun b o e => Heap.get?_push_of_some _ e
  rw [hw]
  refine wpAny_bind (wpAny_pure ?_)
  show wpAny (model X.prog X.w) X.A (do rule "assign.swapped-stores"; let items ← unpackItems (.ref s1.heap.objs.size) 2 none; assignInOrder [fun v => bindName X.env y v, fun v => bindName X.env x v] items.reverse; pure Flow.next) _ _ _
  refine wpAny_bind (wpAny_rule (wpAny_bind (unpackItems_tuple (items := #[u1, u2]) (I.ok.hd hc) (IsTup.new s1.heap _) fun h' hx' => ?_)))
  have I3 := I2.kept (h' := h') (t' := s1.toks) fun b o e => hx' b o (Nat.ne_of_lt (Heap.lt_size e)) e
  show wpAny _ _ (assignInOrder [fun v => bindName X.env y v, fun v => bindName X.env x v] [u2, u1] >>= fun _ => pure Flow.next) _ _ _
  refine wpAny_bind (assignInOrder_cons (wpAny_bindName (store_ok I3 hN hj (.inl hy) rw' (fun s2 I4 => ?_) (.inr hy))))
  refine assignInOrder_cons (wpAny_bindName (store_ok I4 hN hi (.inl hx) rv (fun s3 I5 => assignInOrder_nil (wpAny_pure ?_)) (.inr hx)))
  rw [List.set_comm _ _ (Ne.symm hij)] at I5
  exact ⟨_, H1, I5, q1⟩
end
structure It where
  go : Nat → Hp → Prop
  yld : Nat → Hp → V → Hp → Prop
  stop : Nat → Hp → Prop
def FpOk (X : Cx) (pins : List (Addr × Obj)) (H : Hp) (b : Addr) : Prop :=
  H b = none ∧ b ≠ X.env.locals ∧ b ∉ X.fs ∧ (b ∈ X.ex ∨ X.s_0.heap.objs.size ≤ b) ∧ (∀ x c, X.env.cells.lookup x = some c → c ≠ b) ∧ ∀ p ∈ X.pn ++ pins, p.1 ≠ b
theorem Inv.fpOk {X : Cx} {pins : List (Addr × Obj)} {σ : St} {H H' : Hp} {s : Shared} {b : Addr} (I : Inv X pins σ H s) (hb : s.heap.objs.size ≤ b) (hn : H' b = none) : FpOk X pins H' b := by
  refine ⟨hn, Nat.ne_of_gt (Nat.lt_of_lt_of_le I.lt hb), I.nofs hb, .inr (Nat.le_trans I.sz hb), fun x c e z => ?_, fun p hp z => ?_⟩
  · obtain ⟨v, q⟩ := I.cell x c e
    exact absurd (Nat.lt_of_lt_of_le q.lt (by rw [z]; exact hb)) (Nat.lt_irrefl _)
  · exact absurd (Nat.lt_of_lt_of_le (Heap.lt_size (I.pin p hp).1) (by rw [z]; exact hb)) (Nat.lt_irrefl _)
structure Turn (P : Program) (w : World) (K : PySem.W.Frag) (tg : Expr) (J : It) (fp : List Addr) (it : Addr) (tn : Nat → Heap → Prop) : Prop where
  mem : it ∈ fp
  obj : ∀ i h, tn i h → ∀ b ∈ fp, ∃ o, h.get? b = some o ∧ ∀ v, o.data ≠ .cell v
  keep : ∀ i h h', tn i h → (∀ b ∈ fp, ∀ o, h.get? b = some o → h'.get? b = some o) → tn i h'
  item : ∀ (X : Cx), X.prog = P → X.w = w → X.K = K → X.calm = true → ∀ (i : Nat) (pins : List (Addr × Obj)) (s : Shared) (σ : St) (H : Hp) (E : Value → Shared → Prop), Inv X pins σ H s → (∀ b ∈ fp, FpOk X pins H b) → tn i s.heap → J.go i H →
    wpAny (model P w) X.A (pyNext (.ref it)) (fun r s1 => ∃ u, r = some u ∧
      wpAny (model P w) X.A (letOwnedTupleGo tg (.ref it) u) (fun _ s2 => ∃ x H', Inv X pins σ H' s2 ∧ RelV x u ∧ J.yld i H x H' ∧ tn (i + 1) s2.heap ∧ ∀ b ∈ fp, H' b = none) E s1) E s
  done : ∀ (X : Cx), X.prog = P → X.w = w → X.K = K → X.calm = true → ∀ (i : Nat) (pins : List (Addr × Obj)) (s : Shared) (σ : St) (H : Hp) (E : Value → Shared → Prop), Inv X pins σ H s → (∀ b ∈ fp, FpOk X pins H b) → tn i s.heap → J.stop i H →
    wpAny (model P w) X.A (pyNext (.ref it)) (fun r s1 => r = none ∧ Inv X pins σ H s1) E s
  self : ∀ (A : Around) (i : Nat) (s : Shared) (Q : Value → Shared → Prop) (E : Value → Shared → Prop), tn i s.heap → Q (.ref it) s → wpAny (model P w) A (pyIter (.ref it)) Q E s
abbrev TI := St → Hp → (It → Hp → Prop) → Prop
def PIE (X : Cx) (pins : List (Addr × Obj)) (σ : St) (tg : Expr) (R : It → Hp → Prop) (itv : Value) (s2 : Shared) : Prop :=
  ∃ (it : Addr) (fp : List Addr) (tn : Nat → Heap → Prop) (J : It) (H' : Hp), itv = .ref it ∧ Inv X pins σ H' s2 ∧ Turn X.prog X.w X.K tg J fp it tn ∧ tn 0 s2.heap ∧ (∀ b ∈ fp, FpOk X pins H' b) ∧ R J H'
def PI (X : Cx) (tg iter : Expr) (wi : TI) : Prop :=
  ∀ (pins : List (Addr × Obj)) (s : Shared) (σ : St) (H : Hp) (R : It → Hp → Prop), Inv X pins σ H s → wi σ H R →
    wpAny (model X.prog X.w) X.A (eval iter X.env) (fun v s1 => wpAny (model X.prog X.w) X.A (pyIter v) (PIE X pins σ tg R) X.xe s1) X.xe s
theorem go_of {M : Model} {A : Around} {E : Value → Shared → Prop} {s : Shared} {tg : Expr} {it : Addr} {u : Value} {o : Obj} {n : String} {vs : Array Value} {Q : Unit → Shared → Prop} (ho : s.heap.get? it = some o) (hc : o.cls = .type n) (hd : o.data = .fields vs)
    (hn : ["enumerate", "zip", "dict_itemiterator", "dict_reverseitemiterator", "odict_iterator", "itertools.zip_longest", "itertools.pairwise"].contains n = false) (hQ : Q () s) : wpAny M A (letOwnedTupleGo tg (.ref it) u) Q E s := by
  unfold letOwnedTupleGo
  cases tg <;> first
    | exact wpAny_pure hQ
    | (cases u <;> first
        | exact wpAny_pure hQ
        | (refine wpAny_bind (wpAny_load ho ?_)
           rw [hc, hd]
           show wpAny M A (if (["enumerate", "zip", "dict_itemiterator", "dict_reverseitemiterator", "odict_iterator", "itertools.zip_longest", "itertools.pairwise"].contains n && vs[0]? == some (rawInt _)) = true then _ else _) Q E s
           rw [if_neg (by intro h; rw [hn, Bool.false_and] at h; cases h)]
           exact wpAny_pure hQ))
def Itl (K : PySem.W.Frag) (a : Addr) : It :=
  ⟨fun i H => ∃ xs x, SqL K H a xs ∧ xs[i]? = some x, fun i H x H' => H' = H ∧ ∀ xs, SqL K H a xs → xs[i]? = some x, fun i H => ∃ xs, SqL K H a xs ∧ xs.length ≤ i⟩
def Itr (lo : Int) (n : Nat) : It := ⟨fun i _ => i < n, fun i H x H' => H' = H ∧ x = .int (lo + i), fun i _ => n ≤ i⟩
theorem turn_list {P : Program} {w : World} {K : PySem.W.Frag} {tg : Expr} (a it : Addr) : Turn P w K tg (Itl K a) [it] it (fun i h => h.IsListIter it a i) where
  mem := by simp
  obj := fun i h st b hb => by
    have e : b = it := by simpa using hb
    subst e
    obtain ⟨o, e, c, d⟩ := st
    exact ⟨o, e, fun v z => by rw [d] at z; cases z⟩
  keep := fun i h h' st k => st.at fun o e => k it (by simp) o e
  item := by
    intro X hP hw hK hc i pins s σ H E I hf st hg
    subst hP hw hK
    obtain ⟨xs, x, hq, hx⟩ := hg
    obtain ⟨its, rv, p, hz⟩ := I.list hq
    obtain ⟨u, hu, ru⟩ := rv.get hx
    obtain ⟨f0, f1, f2, f3, f4, f5⟩ := hf it (by simp)
    refine wpAny_pyNext_list_item st p.isList (x := u) (by simpa using hu) fun h' st' sb => ?_
    have I1 : Inv X pins σ H { s with heap := h' } := I.turned (t' := s.toks) (fun b o hb e => (sb.2 b hb).trans e) f0 f1 f3 f4 f5
    obtain ⟨o, e, c, d⟩ := id st'
    exact ⟨u, rfl, go_of (s := { s with heap := h' }) e c d (by decide) ⟨x, H, I1, ru, ⟨rfl, fun ys hy => by rw [I.list_inj hy hq]; exact hx⟩, st', fun b hb => (hf b hb).1⟩⟩
  done := by
    intro X hP hw hK hc i pins s σ H E I hf st hg
    subst hP hw hK
    obtain ⟨xs, hq, hx⟩ := hg
    obtain ⟨its, rv, p, hz⟩ := I.list hq
    obtain ⟨f0, f1, f2, f3, f4, f5⟩ := hf it (by simp)
    have hl := rv.length
    exact wpAny_pyNext_list_end (I.ok.hd hc) st p.isList (by simp; omega) fun h' eb => ⟨rfl, I.turned (t' := s.toks) (fun b o hb e => eb b o hb e) f0 f1 f3 f4 f5⟩
  self := fun _ _ _ _ _ st h => wpAny_pyIter_listiter st h
theorem turn_range {P : Program} {w : World} {K : PySem.W.Frag} {tg : Expr} (it : Addr) (lo : Int) (n : Nat) : Turn P w K tg (Itr lo n) [it] it (fun i h => IsRangeIter h it (lo + (i : Nat) * 1) ((n : Int) - (i : Nat)) 1) where
  mem := by simp
  obj := fun i h st b hb => by
    have e : b = it := by simpa using hb
    subst e
    exact ⟨_, st, fun v z => by
      have z' : Data.fields _ = Data.cell v := z
      cases z'⟩
  keep := fun i h h' st k => k it (by simp) _ st
  item := by
    intro X hP hw hK hc i pins s σ H E I hf st hg
    subst hP hw hK
    obtain ⟨f0, f1, f2, f3, f4, f5⟩ := hf it (by simp)
    have W := Walks.range (prog := X.prog) (w := X.w) (I.ok.hd hc) it lo 1 n
    refine W.item i s _ _ hg st fun v h' tk hv st' kk => ?_
    obtain ⟨t, rfl⟩ := hv
    have I1 : Inv X pins σ H { s with heap := h', toks := tk } := I.turned (fun b o hb e => kk b o (by simpa using hb) e) f0 f1 f3 f4 f5
    refine ⟨_, rfl, go_of (s := { s with heap := h', toks := tk }) (n := "range_iterator") st' rfl rfl (by decide) ⟨.int (lo + i), H, I1, ⟨t, ?_⟩, ⟨rfl, rfl⟩, st', fun b hb => (hf b hb).1⟩⟩
    rw [Int.mul_one]
  done := by
    intro X hP hw hK hc i pins s σ H E I hf st hg
    subst hP hw hK
    obtain ⟨f0, f1, f2, f3, f4, f5⟩ := hf it (by simp)
    exact wpAny_pyNext_range_end (I.ok.hd hc) st (by have : n ≤ i := hg; omega) fun h' eb => ⟨rfl, I.turned (t' := s.toks) (fun b o hb e => eb b o hb e) f0 f1 f3 f4 f5⟩
  self := fun _ _ _ _ _ st h => wpAny_pyIter_rangeiter st h
end L2
namespace L2
open PySem PySem.Spec PyProof.Rows
section
variable {X : Cx} {tg : Expr}
def iList (K : PySem.W.Frag) (tl : TE) : TI := fun σ H R => tl σ H fun x H1 => ∃ a, x = .ref a ∧ (∃ xs, SqL K H1 a xs) ∧ R (Itl K a) H1
theorem pi_list {l : Expr} {tl : TE} (hl : PE X l tl) : PI X tg l (iList X.K tl) := by
  intro pins s σ H R I h
  refine thn (hl pins s σ H _ I h) fun v s1 ⟨x, H1, I1, r1, q1⟩ => ?_
  obtain ⟨a, e, ⟨xs, hq⟩, q⟩ := q1
  subst e
  cases r1
  obtain ⟨its, rv, p, hz⟩ := I1.list hq
  refine wpAny_pyIter_list p.isList ?_
  refine ⟨s1.heap.objs.size, [s1.heap.objs.size], _, _, H1, rfl, I1.kept (t' := s1.toks) fun b o e => Heap.get?_push_of_some _ e, turn_list a _, ⟨_, Heap.get?_push_size _ rfl, rfl, rfl⟩, fun b hb => ?_, q⟩
  have e : b = s1.heap.objs.size := by simpa using hb
  subst e
  exact I1.fpOk (Nat.le_refl _) (I1.hok.fresh (Nat.le_refl _))
theorem range_it {pins : List (Addr × Obj)} {σ : St} {H : Hp} {s : Shared} {R : It → Hp → Prop} {E : Value → Shared → Prop} {lo hi : Int} {t u v : Tok} {tk : Nat} (I : Inv X pins σ H s) (h1 : -(2 ^ 62) ≤ lo) (h2 : lo < 2 ^ 62) (h3 : -(2 ^ 62) ≤ hi) (h4 : hi < 2 ^ 62)
    (q : R (Itr lo (hi - lo).toNat) H) : wpAny (model X.prog X.w) X.A (pyIter (.ref s.heap.objs.size)) (PIE X pins σ tg R) E { s with heap := s.heap.push { cls := .type "range", data := .fields #[.int lo t, .int hi u, .int 1 v] }, toks := tk } := by
  refine wpAny_pyIter_range (IsRange.new ..) (small_one h1 h2 h3 h4) ?_
  have I1 : Inv X pins σ H { s with heap := s.heap.push { cls := .type "range", data := .fields #[.int lo t, .int hi u, .int 1 v] }, toks := tk } := I.kept fun b o e => Heap.get?_push_of_some _ e
  refine ⟨(s.heap.push { cls := .type "range", data := .fields #[.int lo t, .int hi u, .int 1 v] }).objs.size, [(s.heap.push { cls := .type "range", data := .fields #[.int lo t, .int hi u, .int 1 v] }).objs.size], _, _, H, rfl,
    I1.kept (t' := tk) fun b o e => Heap.get?_push_of_some _ e, turn_range _ lo (hi - lo).toNat, ?_, fun b hb => ?_, q⟩
  · have e1 : lo + ((0 : Nat) : Int) * 1 = lo := by simp
    have e2 : (((hi - lo).toNat : Nat) : Int) - ((0 : Nat) : Int) = Builtin.Range.rangeSize lo hi 1 := by rw [rangeSize_one]; split <;> omega
    show IsRangeIter _ _ (lo + ((0 : Nat) : Int) * 1) ((((hi - lo).toNat : Nat) : Int) - ((0 : Nat) : Int)) 1
    rw [e1, e2]
    exact Heap.get?_push_size _ rfl
  · have e : b = (s.heap.push { cls := .type "range", data := .fields #[.int lo t, .int hi u, .int 1 v] }).objs.size := by simpa using hb
    subst e
    exact I1.fpOk (Nat.le_refl _) (I1.hok.fresh (Nat.le_refl _))
def iRng1 (ta : TA) : TI := fun σ H R => ta σ H fun vs H1 => ∃ j : Int, vs = [.int j] ∧ -(2 ^ 62) ≤ j ∧ j < 2 ^ 62 ∧ R (Itr 0 j.toNat) H1
theorem pi_range1 {a : Expr} {ta : TA} {p pos : Pos} (hg : Gl X "range") (hm : X.mg "range" = none) (ha : PA X [a] ta) (hs : starEach [a] X.env = [(false, eval a X.env)] := by rfl) : PI X tg (.Call (.Name "range" p) [a] [] pos) (iRng1 ta) := by
  intro pins s σ H R I h
  refine Call_ (ld_blt I hg hm boot_range (PyProof.Rows.callWith_type1 (thn (ha pos pins s σ H _ I h) fun us s1 ⟨vs, H1, I1, r1, q1⟩ => ?_) hs rfl))
  obtain ⟨j, e, q1, q2, q⟩ := q1
  subst e
  cases r1 with
  | cons r rr =>
    cases rr
    obtain ⟨t, rfl⟩ := r
    exact call_range_1 (range_it I1 (by omega) (by omega) q1 q2 (by simpa using q))
def tFor (wi : TI) (g : TG) (tb : TS) : TS := fun D σ H => wi σ H fun J H1 => ∃ W : Nat → Nat → St → Hp → Prop, (∃ m, W 0 m σ H1) ∧ ∀ i m σ H, W i m σ H →
  (J.stop i H ∧ D.nx σ H) ∨ (J.go i H ∧ ∃ N : St → Hp → Prop, (∀ σ' H', N σ' H' → ∃ m', m' < m ∧ W (i + 1) m' σ' H') ∧ ∀ x H', J.yld i H x H' → g x σ H' fun σ2 H2 => tb { D with nx := N, ct := N, bk := D.nx } σ2 H2)
def pinsAt (fp : List Addr) (h : Heap) : List (Addr × Obj) := fp.filterMap fun b => (h.get? b).map fun o => (b, o)
theorem mem_pinsAt {fp : List Addr} {h : Heap} {b : Addr} {o : Obj} (hb : b ∈ fp) (e : h.get? b = some o) : (b, o) ∈ pinsAt fp h := List.mem_filterMap.mpr ⟨b, hb, by rw [e]; rfl⟩
theorem of_pinsAt {fp : List Addr} {h : Heap} {p : Addr × Obj} (hp : p ∈ pinsAt fp h) : p.1 ∈ fp ∧ h.get? p.1 = some p.2 := by
  obtain ⟨b, hb, e⟩ := List.mem_filterMap.mp hp
  cases q : h.get? b with
  | none => rw [q] at e; cases e
  | some o =>
    rw [q] at e
    have e' : (b, o) = p := Option.some.inj e
    subst e'
    exact ⟨hb, q⟩
theorem Inv.pinned {pins : List (Addr × Obj)} {σ : St} {H : Hp} {s : Shared} {fp : List Addr} (I : Inv X pins σ H s) (hf : ∀ b ∈ fp, FpOk X pins H b) (ho : ∀ b ∈ fp, ∃ o, s.heap.get? b = some o ∧ ∀ v, o.data ≠ .cell v) : Inv X (pins ++ pinsAt fp s.heap) σ H s :=
  I.pins_of fun p hp => (List.mem_append.mp hp).elim (fun z => I.pin p (List.mem_append_right _ z)) fun z => by
    obtain ⟨hb, e⟩ := of_pinsAt z
    obtain ⟨f0, f1, f2, _⟩ := hf p.1 hb
    obtain ⟨o, e', d⟩ := ho p.1 hb
    rw [e] at e'; cases e'
    exact ⟨e, f0, f1, f2, d⟩
theorem Inv.unpinned {pins pl : List (Addr × Obj)} {σ : St} {H : Hp} {s : Shared} (I : Inv X (pins ++ pl) σ H s) : Inv X pins σ H s := I.pins_of fun p hp => I.pin p (List.mem_append_right _ (List.mem_append_left _ hp))
theorem ps_for {iter : Expr} {body : List Stmt} {wi : TI} {g : TG} {tb : TS} {pos : Pos} (hp : PassesOwn (model X.prog X.w) X.A X.env X.xe) (hc : X.calm = true) (hi : PI X tg iter wi) (hg : PG X tg g) (hb : PSs X body tb)
    (hs : ∀ x, foldedSetIterable iter X.env x = pure x := by intro _; rfl) : PS X (.For tg iter body [] pos) (tFor wi g tb) := by
  intro pins s σ H D I h
  refine wpAny_For (thn (hi pins s σ H _ I h) fun v s1 h1 => thn h1 fun itv s2 h2 => ?_) hs
  obtain ⟨it, fp, tn, J, H2, e, I2, T, st2, f2, W, ⟨m0, w0⟩, turn⟩ := h2
  subst e
  have stat : ∀ {H' : Hp}, (∀ b ∈ fp, H' b = none) → ∀ b ∈ fp, FpOk X pins H' b := fun hn b hb => ⟨hn b hb, (f2 b hb).2⟩
  refine codeAny_forLoop_any (fun n s' => ∃ i σ' H', Inv X pins σ' H' s' ∧ tn i s'.heap ∧ (∀ b ∈ fp, H' b = none) ∧ W i n σ' H') ?_ m0 ⟨0, σ, H2, I2, st2, fun b hb => (f2 b hb).1, w0⟩
  rintro n s3 ⟨i, σ3, H3, I3, st3, fr3, w3⟩
  rcases turn i n σ3 H3 w3 with ⟨stop, qn⟩ | ⟨go, N, hN, step⟩
  · refine wpAny_passesOwn hp (thn (T.done X rfl rfl rfl hc i pins s3 σ3 H3 X.xe I3 (stat fr3) st3 stop) fun r s4 ⟨hr, I4⟩ => ?_)
    subst hr
    exact wpAny_execs_nil ⟨σ3, H3, I4, qn⟩
  · refine wpAny_passesOwn hp (thn (T.item X rfl rfl rfl hc i pins s3 σ3 H3 X.xe I3 (stat fr3) st3 go) fun r s4 ⟨u, hr, h4⟩ => ?_)
    subst hr
    refine wpAny_passesOwn hp (thn h4 fun _ s5 ⟨x, H5, I5, r5, y5, st5, fr5⟩ => ?_)
    have I5' := I5.pinned (stat fr5) (T.obj _ _ st5)
    refine wpAny_passesOwn hp (thn (hg _ s5 σ3 H5 x u _ I5' r5 (step x H5 y5)) fun _ s6 ⟨σ6, H6, I6, q6⟩ => ?_)
    refine wpAny_passesOwn hp (thn (hb _ s6 σ6 H6 _ I6 q6) fun f s7 q7 => ?_)
    have again : ∀ {σ7 : St} {H7 : Hp}, Inv X (pins ++ pinsAt fp s5.heap) σ7 H7 s7 → N σ7 H7 → ∃ m, m < n ∧ ∃ i σ' H', Inv X pins σ' H' s7 ∧ tn i s7.heap ∧ (∀ b ∈ fp, H' b = none) ∧ W i m σ' H' := fun {σ7 H7} I7 n7 => by
      obtain ⟨m', hm, w7⟩ := hN σ7 H7 n7
      refine ⟨m', hm, i + 1, σ7, H7, I7.unpinned, T.keep _ _ _ st5 fun b hb o e => (I7.pin (b, o) (List.mem_append_right _ (List.mem_append_right _ (mem_pinsAt hb e)))).1, fun b hb => ?_, w7⟩
      obtain ⟨o, e, d⟩ := T.obj _ _ st5 b hb
      exact (I7.pin (b, o) (List.mem_append_right _ (List.mem_append_right _ (mem_pinsAt hb e)))).2.1
    cases f with
    | next => obtain ⟨σ7, H7, I7, n7⟩ := q7; exact again I7 n7
    | cont => obtain ⟨σ7, H7, I7, n7⟩ := q7; exact again I7 n7
    | brk => obtain ⟨σ7, H7, I7, q7⟩ := q7; exact ⟨σ7, H7, I7.unpinned, q7⟩
    | ret v => obtain ⟨x7, σ7, H7, I7, r7, q7⟩ := q7; exact ⟨x7, σ7, H7, I7.unpinned, r7, q7⟩
end
theorem for_list {K : PySem.W.Frag} {a : Addr} {xs : List V} {g : TG} {tb : TS} {D : Ends} {σ : St} {H : Hp} (Pv : Nat → St → Hp → Prop) (h0 : Pv 0 σ H) (hl : ∀ i σ H, i ≤ xs.length → Pv i σ H → SqL K H a xs)
    (hs : ∀ i x σ H, xs[i]? = some x → Pv i σ H → g x σ H fun σ2 H2 => tb { D with nx := Pv (i + 1), ct := Pv (i + 1), bk := D.nx } σ2 H2) (hd : ∀ σ H, Pv xs.length σ H → D.nx σ H) :
    ∃ W : Nat → Nat → St → Hp → Prop, (∃ m, W 0 m σ H) ∧ ∀ i m σ H, W i m σ H →
      ((Itl K a).stop i H ∧ D.nx σ H) ∨ ((Itl K a).go i H ∧ ∃ N : St → Hp → Prop, (∀ σ' H', N σ' H' → ∃ m', m' < m ∧ W (i + 1) m' σ' H') ∧ ∀ x H', (Itl K a).yld i H x H' → g x σ H' fun σ2 H2 => tb { D with nx := N, ct := N, bk := D.nx } σ2 H2) := by
  refine ⟨fun i m σ H => m = xs.length - i ∧ i ≤ xs.length ∧ Pv i σ H, ⟨xs.length, by simp, Nat.zero_le _, h0⟩, ?_⟩
  rintro i m σ H ⟨rfl, hi, p⟩
  have q := hl i σ H hi p
  by_cases hlt : i < xs.length
  · refine .inr ⟨⟨xs, xs[i], q, by simp [hlt]⟩, Pv (i + 1), fun σ' H' p' => ⟨xs.length - (i + 1), by omega, rfl, hlt, p'⟩, fun x H' y => ?_⟩
    obtain ⟨e, y⟩ := y
    subst e
    exact hs i x σ _ (y xs q) p
  · have e : i = xs.length := by omega
    subst e
    exact .inl ⟨⟨xs, q, Nat.le_refl _⟩, hd σ H p⟩
theorem for_range {lo : Int} {n : Nat} {g : TG} {tb : TS} {D : Ends} {σ : St} {H : Hp} (Pv : Nat → St → Hp → Prop) (h0 : Pv 0 σ H)
    (hs : ∀ i σ H, i < n → Pv i σ H → g (.int (lo + i)) σ H fun σ2 H2 => tb { D with nx := Pv (i + 1), ct := Pv (i + 1), bk := D.nx } σ2 H2) (hd : ∀ σ H, Pv n σ H → D.nx σ H) :
    ∃ W : Nat → Nat → St → Hp → Prop, (∃ m, W 0 m σ H) ∧ ∀ i m σ H, W i m σ H →
      ((Itr lo n).stop i H ∧ D.nx σ H) ∨ ((Itr lo n).go i H ∧ ∃ N : St → Hp → Prop, (∀ σ' H', N σ' H' → ∃ m', m' < m ∧ W (i + 1) m' σ' H') ∧ ∀ x H', (Itr lo n).yld i H x H' → g x σ H' fun σ2 H2 => tb { D with nx := N, ct := N, bk := D.nx } σ2 H2) := by
  refine ⟨fun i m σ H => m = n - i ∧ i ≤ n ∧ Pv i σ H, ⟨n, by simp, Nat.zero_le _, h0⟩, ?_⟩
  rintro i m σ H ⟨rfl, hi, p⟩
  by_cases hlt : i < n
  · refine .inr ⟨hlt, Pv (i + 1), fun σ' H' p' => ⟨n - (i + 1), by omega, rfl, hlt, p'⟩, fun x H' y => ?_⟩
    obtain ⟨e, y⟩ := y
    subst e y
    exact hs i σ _ hlt p
  · have e : i = n := by omega
    subst e
    exact .inl ⟨Nat.le_refl _, hd σ H p⟩
end L2
namespace L2
open PySem PySem.Spec PyProof.Rows
abbrev R2 := V → V → Hp → VK → Prop
def OpR (X : Cx) (f : Value → Value → Sem Value) (r : R2) : Prop :=
  ∀ (pins : List (Addr × Obj)) (s : Shared) (σ : St) (H : Hp) (x y : V) (v u : Value) (Q : VK), Inv X pins σ H s → RelV x v → RelV y u → r x y H Q →
    wpAny (model X.prog X.w) X.A (f v u) (EP X pins σ Q) X.xe s
def UnR (X : Cx) (f : Value → Sem Value) (r : V → Hp → VK → Prop) : Prop :=
  ∀ (pins : List (Addr × Obj)) (s : Shared) (σ : St) (H : Hp) (x : V) (v : Value) (Q : VK), Inv X pins σ H s → RelV x v → r x H Q →
    wpAny (model X.prog X.w) X.A (f v) (EP X pins σ Q) X.xe s
def CallR (X : Cx) (f : Value) (r : List V → Hp → VK → Prop) : Prop :=
  ∀ (pins : List (Addr × Obj)) (s : Shared) (σ : St) (H : Hp) (xs : List V) (us : List Value) (Q : VK), Inv X pins σ H s → Vals xs us → r xs H Q →
    wpAny (model X.prog X.w) X.A (call f us) (EP X pins σ Q) X.xe s
def TruR (X : Cx) (r : V → Hp → (Bool → Hp → Prop) → Prop) : Prop :=
  ∀ (pins : List (Addr × Obj)) (s : Shared) (σ : St) (H : Hp) (x : V) (v : Value) (Q : Bool → Hp → Prop), Inv X pins σ H s → RelV x v → r x H Q →
    wpAny (model X.prog X.w) X.A (truthy v) (TP X pins σ Q) X.xe s
def tOp (r : R2) (ta tb : TE) : TE := fun σ H Q => ta σ H fun x H1 => tb σ H1 fun y H2 => r x y H2 Q
def tUn (r : V → Hp → VK → Prop) (ta : TE) : TE := fun σ H Q => ta σ H fun x H1 => r x H1 Q
def rI (C : Int → Int → Prop) (g : Int → Int → V) : R2 := fun x y H Q => ∃ i j, x = .int i ∧ y = .int j ∧ C i j ∧ Q (g i j) H
def rI0 (g : Int → Int → V) : R2 := fun x y H Q => ∃ i j, x = .int i ∧ y = .int j ∧ Q (g i j) H
def rU (g : Int → V) : V → Hp → VK → Prop := fun x H Q => ∃ i, x = .int i ∧ Q (g i) H
section
variable {X : Cx} {a b c : Expr} {ta tb tc : TE} {pos : Pos}
theorem binT (ha : PE X a ta) (hb : PE X b tb) {pins : List (Addr × Obj)} {s : Shared} {σ : St} {H : Hp} {R : V → V → Hp → Prop} (I : Inv X pins σ H s)
    (h : ta σ H fun x H1 => tb σ H1 fun y H2 => R x y H2) {Q : Value → Shared → Prop} {f : Value → Value → Sem Value}
    (hf : ∀ v u s2 x y H2, Inv X pins σ H2 s2 → RelV x v → RelV y u → R x y H2 → wpAny (model X.prog X.w) X.A (f v u) Q X.xe s2) :
    wpAny (model X.prog X.w) X.A (eval a X.env) (fun v s₁ => wpAny (model X.prog X.w) X.A (eval b X.env) (fun u s₂ => wpAny (model X.prog X.w) X.A (f v u) Q X.xe s₂) X.xe s₁) X.xe s := by
  refine thn (ha pins s σ H _ I h) fun v s1 ⟨x, H1, I1, r1, q1⟩ => ?_
  refine thn (hb pins s1 σ H1 _ I1 q1) fun u s2 ⟨y, H2, I2, r2, q2⟩ => ?_
  exact hf v u s2 x y H2 I2 r1 r2 q2
theorem pe_op {op : Operator} {r : R2} (ho : OpR X (binaryOp op) r) (ha : PE X a ta) (hb : PE X b tb) : PE X (.BinOp a op b pos) (tOp r ta tb) := by
  intro pins s σ H Q I h
  exact wpAny_BinOp (binT ha hb I h fun v u s2 x y H2 I2 rx ry q => ho pins s2 σ H2 x y v u Q I2 rx ry q)
theorem pe_un {op : UnaryOp} {r : V → Hp → VK → Prop} (ho : UnR X (unaryOp op) r) (ha : PE X a ta) : PE X (.UnaryOp op a pos) (tUn r ta) := by
  intro pins s σ H Q I h
  exact UnaryOp_ (thn (ha pins s σ H _ I h) fun v s1 ⟨x, H1, I1, r1, q1⟩ => ho pins s1 σ H1 x v Q I1 r1 q1)
theorem opI {f : Value → Value → Sem Value} {C : Int → Int → Prop} {g : Int → Int → Int}
    (rule : ∀ (i j : Int) (t u : Tok) (s : Shared) (Q : Value → Shared → Prop) (E : Value → Shared → Prop), C i j → Q (.int (g i j) s.toks) { s with toks := s.toks + 1 } → wpAny (model X.prog X.w) X.A (f (.int i t) (.int j u)) Q E s) :
    OpR X f (rI C fun i j => .int (g i j)) := by
  intro pins s σ H x y v u Q I rx ry h
  obtain ⟨i, j, rfl, rfl, hc, q⟩ := h
  obtain ⟨t, rfl⟩ := rx
  obtain ⟨t', rfl⟩ := ry
  exact rule i j t t' s _ _ hc ⟨.int (g i j), H, I.tok _, ⟨_, rfl⟩, q⟩
theorem opI0 {f : Value → Value → Sem Value} {g : Int → Int → Int}
    (rule : ∀ (i j : Int) (t u : Tok) (s : Shared) (Q : Value → Shared → Prop) (E : Value → Shared → Prop), Q (.int (g i j) s.toks) { s with toks := s.toks + 1 } → wpAny (model X.prog X.w) X.A (f (.int i t) (.int j u)) Q E s) :
    OpR X f (rI0 fun i j => .int (g i j)) := by
  intro pins s σ H x y v u Q I rx ry h
  obtain ⟨i, j, rfl, rfl, q⟩ := h
  obtain ⟨t, rfl⟩ := rx
  obtain ⟨t', rfl⟩ := ry
  exact rule i j t t' s _ _ ⟨.int (g i j), H, I.tok _, ⟨_, rfl⟩, q⟩
theorem opB0 {f : Value → Value → Sem Value} {g : Int → Int → Bool}
    (rule : ∀ (i j : Int) (t u : Tok) (s : Shared) (Q : Value → Shared → Prop) (E : Value → Shared → Prop), Q (.bool (g i j)) s → wpAny (model X.prog X.w) X.A (f (.int i t) (.int j u)) Q E s) :
    OpR X f (rI0 fun i j => .bl (g i j)) := by
  intro pins s σ H x y v u Q I rx ry h
  obtain ⟨i, j, rfl, rfl, q⟩ := h
  obtain ⟨t, rfl⟩ := rx
  obtain ⟨t', rfl⟩ := ry
  exact rule i j t t' s _ _ ⟨.bl (g i j), H, I, rfl, q⟩
def CDiv (i j : Int) : Prop := 0 < j ∧ j < 1073741824
def CPow (i j : Int) : Prop := 0 ≤ j ∧ j ≤ 1000000 ∧ i.natAbs < 2 ^ 64
def CMul (i j : Int) : Prop := (-(2 ^ 64) < i ∧ i < 2 ^ 64) ∨ (-(2 ^ 64) < j ∧ j < 2 ^ 64)
theorem CMul.ok {i j : Int} (h : CMul i j) : IntMulOk i j := by
  rcases h with ⟨h1, h2⟩ | ⟨h1, h2⟩
  · exact .of_left (intBits_le_64 h1 h2)
  · exact .of_right (intBits_le_64 h1 h2)
theorem op_add : OpR X (binaryOp .Add) (rI0 fun i j => .int (i + j)) := opI0 fun _ _ _ _ _ _ _ q => add_int q
theorem op_sub : OpR X (binaryOp .Sub) (rI0 fun i j => .int (i - j)) := opI0 fun _ _ _ _ _ _ _ q => sub_int q
theorem op_mul : OpR X (binaryOp .Mult) (rI CMul fun i j => .int (i * j)) := opI fun _ _ _ _ _ _ _ hc q => mul_int q hc.ok
theorem op_fdiv : OpR X (binaryOp .FloorDiv) (rI CDiv fun i j => .int (i / j)) := opI fun i j _ _ _ _ _ hc q => by
  have h1 : (0 : Int) < j := hc.1
  have h2 : j < 1073741824 := hc.2
  exact floordiv_int (by omega) (by rw [Int.fdiv_eq_ediv_of_nonneg i (by omega)]; exact q) (.inl (PyProof.noPylong_small (by omega)))
theorem op_mod : OpR X (binaryOp .Mod) (rI (fun _ j => 0 < j) fun i j => .int (i % j)) := opI fun i j _ _ _ _ _ hc q => by
  have h1 : (0 : Int) < j := hc
  exact mod_int' (by omega) (by rw [Int.fmod_eq_emod_of_nonneg i (by omega)]; exact q)
theorem op_pow : OpR X (binaryOp .Pow) (rI CPow fun i j => .int (i ^ j.toNat)) := opI fun _ _ _ _ _ _ _ hc q => pow_int_small hc.1 hc.2.1 hc.2.2 q
theorem unI {f : Value → Sem Value} {g : Int → Int}
    (rule : ∀ (i : Int) (t : Tok) (s : Shared) (Q : Value → Shared → Prop) (E : Value → Shared → Prop), Q (.int (g i) s.toks) { s with toks := s.toks + 1 } → wpAny (model X.prog X.w) X.A (f (.int i t)) Q E s) :
    UnR X f (rU fun i => .int (g i)) := by
  intro pins s σ H x v Q I rx h
  obtain ⟨i, rfl, q⟩ := h
  obtain ⟨t, rfl⟩ := rx
  exact rule i t s _ _ ⟨.int (g i), H, I.tok _, ⟨_, rfl⟩, q⟩
theorem un_neg : UnR X (unaryOp .USub) (rU fun i => .int (-i)) := unI fun _ _ _ _ _ q => neg_int q
end
def scal : V → V → Bool
  | .non, .non => true | .non, .int _ => true | .int _, .non => true | .non, .bl _ => true | .bl _, .non => true | .non, .str _ => true | .str _, .non => true
  | .int _, .int _ => true | .bl _, .bl _ => true | .str _, .str _ => true | .byt _, .byt _ => true
  | .int _, .str _ => true | .str _, .int _ => true | .bl _, .str _ => true | .str _, .bl _ => true
  | _, _ => false
def rEq : R2 := fun x y H Q => scal x y = true ∧ Q (.bl (decide (x = y))) H
def rNe : R2 := fun x y H Q => scal x y = true ∧ Q (.bl (!decide (x = y))) H
theorem dec_int {i j : Int} : decide (V.int i = V.int j) = (i == j) := by
  rw [Bool.eq_iff_iff]
  simp
theorem dec_bl {i j : Bool} : decide (V.bl i = V.bl j) = (i == j) := by
  rw [Bool.eq_iff_iff]
  simp
theorem dec_str {i j : Str} : decide (V.str i = V.str j) = (i == j) := by
  rw [Bool.eq_iff_iff]
  simp
theorem dec_byt {i j : Array UInt8} : decide (V.byt i = V.byt j) = (i.toList == j.toList) := by
  rw [Bool.eq_iff_iff]
  cases i
  cases j
  simp
section
variable {X : Cx} {a b c : Expr} {ta tb tc : TE} {pos : Pos}
theorem fin_bl {pins : List (Addr × Obj)} {σ : St} {H : Hp} {s : Shared} {Q : VK} {k k' : Bool} (I : Inv X pins σ H s) (q : Q (.bl k) H) (e : k = k') : EP X pins σ Q (.bool k') s := by
  subst e
  exact ⟨.bl k, H, I, rfl, q⟩
theorem op_eq : OpR X (compareOp .Eq) rEq := by
  intro pins s σ H x y v u Q I rx ry h
  obtain ⟨hs, q⟩ := h
  cases x with
  | non =>
    cases rx
    cases y with
    | non => cases ry; exact PySem.EqNone.eq_none_none (fin_bl I q (by simp))
    | bl j => cases ry; exact PySem.EqNone.eq_none_bool (fin_bl I q (by simp))
    | int j => obtain ⟨t', rfl⟩ := ry; exact PySem.EqNone.eq_none_int (fin_bl I q (by simp))
    | str j => obtain ⟨t', rfl⟩ := ry; exact PySem.EqNone.eq_none_str (fin_bl I q (by simp))
    | _ => exact absurd (show false = true from hs) Bool.false_ne_true
  | bl i =>
    cases rx
    cases y with
    | non => cases ry; exact PySem.EqNone.eq_bool_none (fin_bl I q (by simp))
    | bl j => cases ry; exact eq_bool (fin_bl I q dec_bl)
    | str j => obtain ⟨t', rfl⟩ := ry; exact PySem.EqMixed.eq_bool_str (fin_bl I q (by simp))
    | _ => exact absurd (show false = true from hs) Bool.false_ne_true
  | int i =>
    obtain ⟨t, rfl⟩ := rx
    cases y with
    | non => cases ry; exact PySem.EqNone.eq_int_none (fin_bl I q (by simp))
    | int j => obtain ⟨t', rfl⟩ := ry; exact eq_int (fin_bl I q dec_int)
    | str j => obtain ⟨t', rfl⟩ := ry; exact PySem.EqMixed.eq_int_str (fin_bl I q (by simp))
    | _ => exact absurd (show false = true from hs) Bool.false_ne_true
  | str i =>
    obtain ⟨t, rfl⟩ := rx
    cases y with
    | non => cases ry; exact PySem.EqNone.eq_str_none (fin_bl I q (by simp))
    | bl j => cases ry; exact PySem.EqMixed.eq_str_bool (fin_bl I q (by simp))
    | int j => obtain ⟨t', rfl⟩ := ry; exact PySem.EqMixed.eq_str_int (fin_bl I q (by simp))
    | str j => obtain ⟨t', rfl⟩ := ry; exact eq_str (fin_bl I q dec_str)
    | _ => exact absurd (show false = true from hs) Bool.false_ne_true
  | byt i =>
    obtain ⟨t, rfl⟩ := rx
    cases y with
    | byt j => obtain ⟨t', rfl⟩ := ry; exact PySem.W.eq_bytes (fin_bl I q dec_byt)
    | _ => exact absurd (show false = true from hs) Bool.false_ne_true
  | _ => cases y <;> exact absurd (show false = true from hs) Bool.false_ne_true
theorem op_ne : OpR X (compareOp .NotEq) rNe := by
  intro pins s σ H x y v u Q I rx ry h
  obtain ⟨hs, q⟩ := h
  cases x with
  | non =>
    cases rx
    cases y with
    | non => cases ry; exact PySem.EqNone.ne_none_none (fin_bl I q (by simp))
    | bl j => cases ry; exact PySem.EqNone.ne_none_bool (fin_bl I q (by simp))
    | int j => obtain ⟨t', rfl⟩ := ry; exact PySem.EqNone.ne_none_int (fin_bl I q (by simp))
    | str j => obtain ⟨t', rfl⟩ := ry; exact PySem.EqNone.ne_none_str (fin_bl I q (by simp))
    | _ => exact absurd (show false = true from hs) Bool.false_ne_true
  | bl i =>
    cases rx
    cases y with
    | non => cases ry; exact PySem.EqNone.ne_bool_none (fin_bl I q (by simp))
    | bl j => cases ry; exact ne_bool (fin_bl I q (congrArg not dec_bl))
    | str j => obtain ⟨t', rfl⟩ := ry; exact PySem.EqMixed.ne_bool_str (fin_bl I q (by simp))
    | _ => exact absurd (show false = true from hs) Bool.false_ne_true
  | int i =>
    obtain ⟨t, rfl⟩ := rx
    cases y with
    | non => cases ry; exact PySem.EqNone.ne_int_none (fin_bl I q (by simp))
    | int j => obtain ⟨t', rfl⟩ := ry; exact ne_int (fin_bl I q (congrArg not dec_int))
    | str j => obtain ⟨t', rfl⟩ := ry; exact PySem.EqMixed.ne_int_str (fin_bl I q (by simp))
    | _ => exact absurd (show false = true from hs) Bool.false_ne_true
  | str i =>
    obtain ⟨t, rfl⟩ := rx
    cases y with
    | non => cases ry; exact PySem.EqNone.ne_str_none (fin_bl I q (by simp))
    | bl j => cases ry; exact PySem.EqMixed.ne_str_bool (fin_bl I q (by simp))
    | int j => obtain ⟨t', rfl⟩ := ry; exact PySem.EqMixed.ne_str_int (fin_bl I q (by simp))
    | str j => obtain ⟨t', rfl⟩ := ry; exact ne_str (fin_bl I q (congrArg not dec_str))
    | _ => exact absurd (show false = true from hs) Bool.false_ne_true
  | byt i =>
    obtain ⟨t, rfl⟩ := rx
    cases y with
    | byt j => obtain ⟨t', rfl⟩ := ry; exact PySem.W.ne_bytes (fin_bl I q (congrArg not dec_byt))
    | _ => exact absurd (show false = true from hs) Bool.false_ne_true
  | _ => cases y <;> exact absurd (show false = true from hs) Bool.false_ne_true
theorem op_lt : OpR X (compareOp .Lt) (rI0 fun i j => .bl (decide (i < j))) := opB0 fun _ _ _ _ _ _ _ q => lt_int q
theorem op_le : OpR X (compareOp .LtE) (rI0 fun i j => .bl (decide (i ≤ j))) := opB0 fun _ _ _ _ _ _ _ q => le_int q
theorem op_gt : OpR X (compareOp .Gt) (rI0 fun i j => .bl (decide (j < i))) := opB0 fun _ _ _ _ _ _ _ q => gt_int q
theorem op_ge : OpR X (compareOp .GtE) (rI0 fun i j => .bl (decide (j ≤ i))) := opB0 fun _ _ _ _ _ _ _ q => ge_int q
theorem op_isN : OpR X (compareOp .Is) (fun x y H Q => y = .non ∧ Q (.bl (decide (x = .non))) H) := by
  intro pins s σ H x y v u Q I rx ry h
  obtain ⟨rfl, q⟩ := h
  cases ry
  refine is_none_gen (fin_bl I q ?_)
  cases x <;> first
    | (cases rx; rfl)
    | (obtain ⟨t, rfl⟩ := rx; rfl)
theorem op_notN : OpR X (compareOp .IsNot) (fun x y H Q => y = .non ∧ Q (.bl (!decide (x = .non))) H) := by
  intro pins s σ H x y v u Q I rx ry h
  obtain ⟨rfl, q⟩ := h
  cases ry
  refine isnot_none_gen (fin_bl I q ?_)
  cases x <;> first
    | (cases rx; rfl)
    | (obtain ⟨t, rfl⟩ := rx; rfl)
theorem nomark (b : Expr) {op : CmpOp} (h : op ≠ .In := by decide) (h2 : op ≠ .NotIn := by decide) : behindInMarks op b = false := by
  have e1 : (op == CmpOp.In) = false := by cases op <;> first | rfl | exact absurd rfl h
  have e2 : (op == CmpOp.NotIn) = false := by cases op <;> first | rfl | exact absurd rfl h2
  cases b <;> simp [behindInMarks, e1, e2]
theorem pe_cmpR {op : CmpOp} {r : R2} (ho : OpR X (compareOp op) r) (ha : PE X a ta) (hb : PE X b tb) (hm : behindInMarks op b = false) : PE X (.Compare a [op] [b] pos) (tOp r ta tb) := by
  intro pins s σ H Q I h
  exact wpAny_Compare1 (binT ha hb I h fun v u s2 x y H2 I2 rx ry q => ho pins s2 σ H2 x y v u Q I2 rx ry q) hm
def tTest (t : TE) : TT := fun σ H Q => t σ H fun x H' => ∃ k, x = .bl k ∧ Q k H'
theorem pt_cmpR {op : CmpOp} {r : R2} (ho : OpR X (compareOp op) r) (ha : PE X a ta) (hb : PE X b tb) (hm : behindInMarks op b = false) : PT X (.Compare a [op] [b] pos) (tTest (tOp r ta tb)) := by
  intro pins s σ H Q I h
  refine wpAny_isTrue_Compare1 (thn (ha pins s σ H _ I h) fun v s1 ⟨x, H1, I1, r1, q1⟩ => thn (hb pins s1 σ H1 _ I1 q1) fun u s2 ⟨y, H2, I2, r2, q2⟩ =>
    thn (ho pins s2 σ H2 x y v u _ I2 r1 r2 q2) fun c s3 ⟨z, H3, I3, r3, k, e, q3⟩ => ?_) hm
  subst e
  cases r3
  exact wpAny_truthy_bool ⟨H3, I3, q3⟩
def tChain (r r' : R2) (ta tb tc : TE) : TE := fun σ H Q => ta σ H fun x H1 => tb σ H1 fun y H2 => r x y H2 fun z H3 => ∃ k, z = .bl k ∧
  (if k = true then tc σ H3 fun w' H4 => r' y w' H4 Q else Q (.bl false) H3)
theorem pe_chain {op op' : CmpOp} {r r' : R2} (ho : OpR X (compareOp op) r) (ho' : OpR X (compareOp op') r') (ha : PE X a ta) (hb : PE X b tb) (hc : PE X c tc)
    (hm : lastMarks [op, op'] [b, c] = false := by with_unfolding_all rfl) : PE X (.Compare a [op, op'] [b, c] pos) (tChain r r' ta tb tc) := by
  intro pins s σ H Q I h
  refine Compare_chain (thn (ha pins s σ H _ I h) fun v s1 ⟨x, H1, I1, r1, q1⟩ => chain_link (thn (hb pins s1 σ H1 _ I1 q1) fun u s2 ⟨y, H2, I2, r2, q2⟩ =>
    thn (ho pins s2 σ H2 x y v u _ I2 r1 r2 q2) fun d s3 ⟨z, H3, I3, r3, k, e, q3⟩ => ?_)) hm
  subst e
  cases r3
  refine wpAny_truthy_bool ?_
  cases k with
  | false => exact ite_ff ⟨.bl false, H3, I3, rfl, q3⟩
  | true => exact ite_tt (chain_last (thn (hc pins s3 σ H3 _ I3 q3) fun w' s4 ⟨z', H4, I4, r4, q4⟩ => ho' pins s4 σ H4 y z' u w' Q I4 r2 r4 q4))
def TruV (K : PySem.W.Frag) (x : V) (H : Hp) (k : Bool) : Prop :=
  match x with
  | .non => k = false
  | .bl b => k = b
  | .int i => k = (i != 0)
  | .str y => y.length ≤ sizeLine ∧ k = ((y.length : Int) != 0)
  | .byt y => y.size ≤ sizeLine ∧ k = ((y.size : Int) != 0)
  | .ref p => (∃ xs, SqL K H p xs ∧ k = !xs.isEmpty) ∨ (∃ xs, SqT K H p xs ∧ k = !xs.isEmpty) ∨ ∃ kvs, H p = some (.dK kvs) ∧ k = !kvs.isEmpty
  | _ => False
theorem isEmpty_kv {κ : Type} {kvs : List (κ × V)} {vs : List (κ × Value)} (r : KV kvs vs) : (!vs.isEmpty) = !kvs.isEmpty := by
  cases r <;> rfl
theorem isEmpty_of {xs : List V} {its : List Value} (r : Vals xs its) : (!its.toArray.isEmpty) = !xs.isEmpty := by
  cases r <;> simp
theorem line63 : (sizeLine : Nat) < 2 ^ 63 := by rw [sizeLine_eq]; decide
theorem tru_ok : TruR X (fun x H Q => ∃ k, TruV X.K x H k ∧ Q k H) := by
  intro pins s σ H x v Q I rx h
  obtain ⟨k, e, q⟩ := h
  have hl := line63
  have hs : sizeLine = 16777216 := sizeLine_eq
  cases x with
  | non =>
    cases rx
    have e' : k = false := e
    subst e'
    exact truthy_none ⟨H, I, q⟩
  | bl b =>
    cases rx
    have e' : k = b := e
    subst e'
    exact wpAny_truthy_bool ⟨H, I, q⟩
  | int i =>
    obtain ⟨t, rfl⟩ := rx
    have e' : k = (i != 0) := e
    subst e'
    exact PySem.P.truthy_int ⟨H, I, q⟩
  | str y =>
    obtain ⟨t, rfl⟩ := rx
    obtain ⟨hy, e'⟩ : y.length ≤ sizeLine ∧ k = ((y.length : Int) != 0) := e
    subst e'
    exact PySem.P.truthy_str (by omega) ⟨H, I.tok _, q⟩
  | byt y =>
    obtain ⟨t, rfl⟩ := rx
    obtain ⟨hy, e'⟩ : y.size ≤ sizeLine ∧ k = ((y.size : Int) != 0) := e
    subst e'
    exact PySem.W.truthy_bytes (by omega) ⟨H, I.tok _, q⟩
  | ref p =>
    cases rx
    have e' : (∃ xs, SqL X.K H p xs ∧ k = !xs.isEmpty) ∨ (∃ xs, SqT X.K H p xs ∧ k = !xs.isEmpty) ∨ ∃ kvs, H p = some (.dK kvs) ∧ k = !kvs.isEmpty := e
    rcases e' with ⟨xs, hx, e'⟩ | ⟨xs, hx, e'⟩ | ⟨kvs, hx, e'⟩
    · subst e'
      obtain ⟨its, r, pl, hz⟩ := I.list hx
      have hlen := r.length
      exact wpAny_truthy_list pl.isList (by simp only [List.size_toArray]; omega) ⟨H, I.tok _, by rw [isEmpty_of r]; exact q⟩
    · subst e'
      obtain ⟨its, r, pl, hz⟩ := I.tuple hx
      have hlen := r.length
      exact truthy_tuple pl (by simp only [List.size_toArray]; omega) ⟨H, I.tok _, by rw [isEmpty_of r]; exact q⟩
    · subst e'
      obtain ⟨hz, hS, vs, r, m⟩ : kvs.length ≤ sizeLine ∧ (p == sysModules) = false ∧ ∃ vs, KV kvs vs ∧ s.heap.DictOf (mixKind X.prog X.w) p vs := I.hok p _ hx
      have hlen : kvs.length = vs.length := Paired.length r
      exact wpAny_truthy_dict hS m (by omega) ⟨H, I.tok _, by rw [isEmpty_kv r]; exact q⟩
  | _ => exact (show False from e).elim
theorem pt_truth (ha : PE X a ta) (he : ∀ whole, isTrue a X.env whole = (do let v ← whole; standAt a.pos; holding [v] (truthy v))) :
    PT X a (fun σ H Q => ta σ H fun x H' => ∃ k, TruV X.K x H' k ∧ Q k H') := by
  intro pins s σ H Q I h
  exact isTrue_plain (thn (ha pins s σ H _ I h) fun v s1 ⟨x, H1, I1, r1, q1⟩ => tru_ok pins s1 σ H1 x v Q I1 r1 q1) (he _)
theorem op_add_str : OpR X (binaryOp .Add) (fun x y H Q => ∃ i j, x = .str i ∧ y = .str j ∧ i.length + j.length ≤ sizeLine ∧ Q (.str (i ++ j)) H) := by
  intro pins s σ H x y v u Q I rx ry h
  obtain ⟨i, j, rfl, rfl, hz, q⟩ := h
  obtain ⟨t, rfl⟩ := rx
  obtain ⟨t', rfl⟩ := ry
  exact add_str (fun t' tk => ⟨.str (i ++ j), H, I.tok _, ⟨_, rfl⟩, q⟩) hz
theorem vals1 {x : V} {us : List Value} (r : Vals [x] us) : ∃ u, us = [u] ∧ RelV x u := by
  cases r with
  | cons r1 r2 => cases r2; exact ⟨_, rfl, r1⟩
theorem vals2 {x y : V} {us : List Value} (r : Vals [x, y] us) : ∃ u w', us = [u, w'] ∧ RelV x u ∧ RelV y w' := by
  cases r with
  | cons r1 r2 =>
    cases r2 with
    | cons r3 r4 => cases r4; exact ⟨_, _, rfl, r1, r3⟩
theorem call_max2 (hc : X.calm = true) : CallR X (.builtin "max") (fun xs H Q => ∃ i j, xs = [.int i, .int j] ∧ Q (.int (if j > i then j else i)) H) := by
  intro pins s σ H xs us Q I r h
  obtain ⟨i, j, rfl, q⟩ := h
  obtain ⟨u, w', rfl, ⟨t, rfl⟩, ⟨t', rfl⟩⟩ := vals2 r
  refine max_two_ints (I.ok.hd hc) fun h' tk k => ⟨_, H, I.kept k, ?_, q⟩
  by_cases hj : j > i
  · rw [if_pos hj, if_pos hj]; exact ⟨_, rfl⟩
  · rw [if_neg hj, if_neg hj]; exact ⟨_, rfl⟩
theorem call_min2 (hc : X.calm = true) : CallR X (.builtin "min") (fun xs H Q => ∃ i j, xs = [.int i, .int j] ∧ Q (.int (if j < i then j else i)) H) := by
  intro pins s σ H xs us Q I r h
  obtain ⟨i, j, rfl, q⟩ := h
  obtain ⟨u, w', rfl, ⟨t, rfl⟩, ⟨t', rfl⟩⟩ := vals2 r
  refine min_two_ints (I.ok.hd hc) fun h' tk k => ⟨_, H, I.kept k, ?_, q⟩
  by_cases hj : j < i
  · rw [if_pos hj, if_pos hj]; exact ⟨_, rfl⟩
  · rw [if_neg hj, if_neg hj]; exact ⟨_, rfl⟩
end
end L2
namespace L2
open PySem PySem.Spec PyProof.Rows
structure ObjM (h : Heap) (x dx C : Addr) (mA : Str → Option Value) : Prop where
  obj : h.get? x = some (PySem.W.instObj C dx)
  ns : h.Ns1 dx mA
  ne : dx ≠ x
theorem lookIn_ns {h : Heap} {dx : Addr} {mA : Str → Option Value} (n : h.Ns1 dx mA) : ∃ od, h.get? dx = some od ∧ ∀ name, PySem.W.lookIn name od = some (mA name) := by
  obtain ⟨o, es, ep, ho, hd, hk, _, hm⟩ := n
  refine ⟨o, ho, fun name => ?_⟩
  have e := hm name
  unfold nsFind findBy at e
  rw [← Array.find?_toList] at e
  unfold PySem.W.lookIn
  rw [hd]
  dsimp only
  split
  · rename_i y q
    rw [q] at e
    exact congrArg some e
  · rename_i q
    rw [q] at e
    have a : es.toList.any (·.refKey) = false := by
      rw [List.any_eq_false]
      intro y hy
      obtain ⟨z, t, hkey⟩ := hk y (Array.mem_toList_iff.mp hy)
      simp [DictEntry.refKey, hkey]
    have a' : ¬ es.toList.any (·.refKey) = true := by rw [a]; exact Bool.false_ne_true
    rw [if_neg a']
    exact congrArg some e
theorem ObjM.look {h : Heap} {x dx C : Addr} {mA : Str → Option Value} (I : ObjM h x dx C mA) : ∃ od, PySem.W.InstAt h x (PySem.W.instObj C dx) C (some od) ∧ ∀ name, PySem.W.lookIn name od = some (mA name) :=
  let ⟨od, ho, hl⟩ := lookIn_ns I.ns
  ⟨od, ⟨I.obj, rfl, rfl, ho⟩, hl⟩
section
variable {prog : Program} {w : World} {A : Around} {E : Value → Shared → Prop} {s : Shared} {K : PySem.W.Frag} {x dx C f : Addr} {mA : Str → Option Value} {name : Str} {v : Value}
theorem get_map {expr : Bool} {Q : Value → Shared → Prop} (X : K.In s.heap) (I : ObjM s.heap x dx C mA) (hg : PySem.W.plainGet K C name = true) (hh : PySem.W.hasDictIn K C = true)
    (ha : PySem.W.findIn K (.ref C) name = some none) (hv : mA name = some v) (hv' : PySem.W.handedIn v = true) (h : Q v { s with toks := s.toks + 1 }) :
    wpAny (model prog w) A (getAttr (.ref x) name expr) Q E s := by
  obtain ⟨od, J, hl⟩ := I.look
  exact PySem.W.get_value X J (PySem.W.plainGet_of hg).1 (PySem.W.findObj_own hh ha rfl (by rw [hl, hv])) hv' h
theorem get_meth {pl : Sem Bool} {Q : Value × List Value → Shared → Prop} (X : K.In s.heap) (I : ObjM s.heap x dx C mA) (hg : PySem.W.plainGet K C name = true)
    (hf : PySem.W.findIn K (.ref C) name = some (some (.ref f))) (ht : PySem.W.isFn K (.ref f) = true) (hv : mA name = none) (h : Q (.ref f, [.ref x]) s) :
    wpAny (model prog w) A (getMethod (.ref x) name pl) Q E s := by
  obtain ⟨od, J, hl⟩ := I.look
  exact PySem.W.method_fn X J (PySem.W.plainGet_of hg).1 (PySem.W.plainGet_of hg).2 hf (beq_iff_eq.mp ht) (by show (PySem.W.lookIn name od).map (·.isSome) = some false; rw [hl, hv]; rfl) h
theorem set_map {ns : List Str} {Q : Unit → Shared → Prop} (X : K.In s.heap) (I : ObjM s.heap x dx C mA)
    (hs : PySem.W.findIn K (.ref C) "__setattr__" = some (some (.builtin "object.__setattr__"))) (hp : PySem.W.plainOver K C = true) (ht : PySem.W.takerIn K C name = some none) (hh : PySem.W.hasDictIn K C = true)
    (hw : PySem.Within mA ns) (hsz : ns.length ≤ sizeLine)
    (h : ∀ h', ObjM h' x dx C (fun y => if y = name then some v else mA y) → Heap.SameBut dx s.heap h' → Q () { s with heap := h', toks := s.toks + 2 }) :
    wpAny (model prog w) A (setAttr (.ref x) name v) Q E s := by
  obtain ⟨od, J, hl⟩ := I.look
  refine PySem.W.set_plain X J hs (PySem.W.osa_open (s := { s with toks := s.toks + 1 }) (r := none) X J hp ht fun b => ?_)
  obtain ⟨cd, hc, hd'⟩ := PySem.W.any_some hh
  have hx : s.heap.get? x = some ⟨.ref C, some dx, .plain, #[]⟩ := I.obj
  refine wpAny_bind (wpAny_pure (wpAny_bind (wpAny_bind (wpAny_loadPart hx (wpAny_bind (PySem.W.Looks.here (s := { s with toks := s.toks + 1 }) (PySem.W.looks_clsIn X hc) ?_))))))
  rw [hd']
  refine wpAny_pure (a := some dx) (wpAny_bind (wpAny_pure (wpAny_bind ?_)))
  refine wpAny_nsSet1 (s := { s with toks := s.toks + 1 }) I.ns fun h' hn2 hs2 => ?_
  obtain ⟨oD, esD, epD, hoD, hdD, hcD⟩ := hn2.count (PySem.Within.cons name v hw)
  refine wpAny_bind (wpAny_lookBehind hoD (by rw [hdD]; exact pastItsLine_dict (Nat.le_trans hcD (by rw [List.length_cons]; omega))) ?_)
  exact wpAny_pure (h _ ⟨(hs2.2 _ (Ne.symm I.ne)).trans I.obj, hn2, I.ne⟩ hs2)
theorem make_map {R : Result → Shared → Prop} {vs : List Value} {kw : List (Str × Value)} (X : K.In s.heap) (hm : PySem.W.makesIn K C = true)
    (hi : PySem.W.findIn K (.ref C) "__init__" = some (some (.ref f))) (hf : PySem.W.typeIn K (.ref f) = some (.type "function"))
    (h : codeAny (model prog w) (A.under (.builtin "type.__call__" ⟨.ref C :: vs, kw⟩)) (.call (.ref f) ⟨.ref (s.heap.objs.size + 1) :: vs, kw⟩) (PySem.W.InitBack (s.heap.objs.size + 1) R)
      { s with heap := (s.heap.push PySem.W.emptyDict).push (PySem.W.instObj C s.heap.objs.size) }) :
    codeAny (model prog w) A (.call (.ref C) ⟨vs, kw⟩) R s := by
  obtain ⟨hh, g, d, t, os⟩ := s
  exact PySem.W.make_core (PySem.W.makes_of X hm) (PySem.W.looks_findIn X hi) (fun self => PySem.W.bind_fn X self hf) (.inl rfl) h
end
def putF (f : Str) (v : V) : List (Str × V) → List (Str × V)
  | [] => [(f, v)]
  | (g, x) :: r => if g = f then (g, v) :: r else (g, x) :: putF f v r
theorem lookup_putF (f g : Str) (v : V) : ∀ fs : List (Str × V), (putF f v fs).lookup g = if g = f then some v else fs.lookup g
  | [] => by
    show List.lookup g [(f, v)] = _
    by_cases h : g = f
    · have hb : (g == f) = true := beq_iff_eq.mpr h
      simp only [List.lookup, hb, if_pos h]
    · have hb : (g == f) = false := beq_eq_false_iff_ne.mpr h
      simp only [List.lookup, hb, if_neg h]
  | (k, x) :: r => by
    have ih := lookup_putF f g v r
    rw [show putF f v ((k, x) :: r) = (if k = f then (k, v) :: r else (k, x) :: putF f v r) from rfl]
    by_cases hk : k = f
    · rw [if_pos hk]
      by_cases h : g = k
      · have hb : (g == k) = true := beq_iff_eq.mpr h
        simp only [List.lookup, hb, if_pos (h.trans hk)]
      · have hb : (g == k) = false := beq_eq_false_iff_ne.mpr h
        simp only [List.lookup, hb, if_neg (fun e : g = f => h (e.trans hk.symm))]
    · rw [if_neg hk]
      by_cases h : g = k
      · have hb : (g == k) = true := beq_iff_eq.mpr h
        simp only [List.lookup, hb, if_neg (fun e : g = f => hk (h.symm.trans e))]
      · have hb : (g == k) = false := beq_eq_false_iff_ne.mpr h
        simp only [List.lookup, hb]
        exact ih
theorem keys_putF (f : Str) (v : V) : ∀ fs : List (Str × V), f ∈ (putF f v fs).map (·.1) ∧ ∀ g, g ∈ fs.map (·.1) → g ∈ (putF f v fs).map (·.1)
  | [] => ⟨by simp [putF], fun g h => by simp at h⟩
  | (k, x) :: r => by
    obtain ⟨i1, i2⟩ := keys_putF f v r
    rw [show putF f v ((k, x) :: r) = (if k = f then (k, v) :: r else (k, x) :: putF f v r) from rfl]
    by_cases hk : k = f
    · rw [if_pos hk]
      subst hk
      exact ⟨by simp, fun g h => by simpa using h⟩
    · rw [if_neg hk]
      refine ⟨?_, fun g h => ?_⟩
      · rw [List.map_cons]
        exact List.mem_cons_of_mem _ i1
      · rw [List.map_cons] at h ⊢
        rcases List.mem_cons.mp h with e | e
        · exact List.mem_cons.mpr (.inl e)
        · exact List.mem_cons_of_mem _ (i2 g e)
theorem length_putF (f : Str) (v : V) : ∀ fs : List (Str × V), (putF f v fs).length ≤ fs.length + 1
  | [] => by simp [putF]
  | (k, x) :: r => by
    have ih := length_putF f v r
    rw [show putF f v ((k, x) :: r) = (if k = f then (k, v) :: r else (k, x) :: putF f v r) from rfl]
    by_cases hk : k = f
    · rw [if_pos hk, List.length_cons, List.length_cons]; omega
    · rw [if_neg hk, List.length_cons, List.length_cons]; omega
theorem RelO.some_of {v : V} {o : Option Value} (r : RelO (some v) o) : ∃ u, o = some u ∧ RelV v u := by
  cases o with
  | none => exact (show False from r).elim
  | some u => exact ⟨u, rfl, r⟩
theorem RelO.none_of {o : Option Value} (r : RelO none o) : o = none := by
  cases o with
  | none => rfl
  | some u => exact (show False from r).elim
theorem handed_of {v : V} {u : Value} (r : RelV v u) : PySem.W.handedIn u = true := by
  cases v with
  | non => cases (show u = Value.none from r); rfl
  | bl b => cases (show u = Value.bool b from r); rfl
  | int i => obtain ⟨t, e⟩ := (show ∃ t, u = Value.int i t from r); cases e; rfl
  | str x => obtain ⟨t, e⟩ := (show ∃ t, u = Value.str x t from r); cases e; rfl
  | byt b => obtain ⟨t, e⟩ := (show ∃ t, u = Value.bytes b t from r); cases e; rfl
  | flt b => obtain ⟨t, e⟩ := (show ∃ t, u = Value.float b t from r); cases e; rfl
  | ref a => cases (show u = Value.ref a from r); rfl
  | ty n => cases (show u = Value.type n from r); rfl
section
variable {P : Program} {w : World} {H H' : Hp} {h h' : Heap} {a C dx : Addr} {fs fs' : List (Str × V)}
theorem ins_get (hok : HOk P w H h) (e : H a = some (.ins C dx fs)) : ∃ mA, ObjM h a dx C mA ∧ (∀ f, RelO (fs.lookup f) (mA f)) ∧ PySem.Within mA (fs.map (·.1)) ∧ fs.length ≤ 1000 ∧ H dx = some (.own a) := by
  obtain ⟨d, z, ne, ob, mA, n, r, q⟩ := (show ObjOk P w H h a (.ins C dx fs) from hok a _ e)
  exact ⟨mA, ⟨ob, n, ne⟩, r, q, z, d⟩
end
structure Cls (K : PySem.W.Frag) (C : Addr) : Prop where
  pg : PySem.W.plainGet K C Str.empty = true
  hd : PySem.W.hasDictIn K C = true
  po : PySem.W.plainOver K C = true
  sa : PySem.W.findIn K (.ref C) "__setattr__" = some (some (.builtin "object.__setattr__"))
theorem Cls.get {K : PySem.W.Frag} {C : Addr} (c : Cls K C) (f : Str) : PySem.W.plainGet K C f = true := c.pg
def NoAttr (K : PySem.W.Frag) (C : Addr) (f : Str) : Prop := PySem.W.findIn K (.ref C) f = some none
theorem NoAttr.taker {K : PySem.W.Frag} {C : Addr} {f : Str} (n : NoAttr K C f) : PySem.W.takerIn K C f = some none := by
  unfold PySem.W.takerIn
  rw [show PySem.W.findIn K (.ref C) f = some none from n]
  rfl
structure Con (K : PySem.W.Frag) (C : Addr) (f : Str) (v : V) (u : Value) : Prop where
  at_ : PySem.W.findIn K (.ref C) f = some (some u)
  rel : RelV v u
  get : PySem.W.specialIn K u "__get__" = some none
  cp : PySem.W.copiedNames.contains f = false
structure Meth (K : PySem.W.Frag) (C : Addr) (m : Str) (f : Addr) : Prop where
  at_ : PySem.W.findIn K (.ref C) m = some (some (.ref f))
  fn : PySem.W.isFn K (.ref f) = true
  kp : PySem.W.keepIn K (.ref f) = true
section
variable {X : Cx} {pins : List (Addr × Obj)} {σ : St} {H : Hp} {s : Shared} {a C dx : Addr} {fs : List (Str × V)} {f : Str} {v : V} {A : Around} {E : Value → Shared → Prop}
theorem getattr_ok {b : Bool} {Q : Value → Shared → Prop} (I : Inv X pins σ H s) (e : H a = some (.ins C dx fs)) (c : Cls X.K C) (n : NoAttr X.K C f) (l : fs.lookup f = some v)
    (h : ∀ u s', Inv X pins σ H s' → RelV v u → Q u s') : wpAny (model X.prog X.w) A (getAttr (.ref a) f b) Q E s := by
  obtain ⟨mA, O, r, _, _, _⟩ := ins_get I.hok e
  obtain ⟨u, hu, ru⟩ := RelO.some_of (v := v) (o := mA f) (by rw [← l]; exact r f)
  exact get_map I.kIn O (c.get f) c.hd n hu (handed_of ru) (h u _ (I.tok _) ru)
theorem getmeth_ok {m : Str} {g : Addr} {pl : Sem Bool} {Q : Value × List Value → Shared → Prop} (I : Inv X pins σ H s) (e : H a = some (.ins C dx fs)) (c : Cls X.K C) (k : Meth X.K C m g) (l : fs.lookup m = none)
    (h : Q (.ref g, [.ref a]) s) : wpAny (model X.prog X.w) A (getMethod (.ref a) m pl) Q E s := by
  obtain ⟨mA, O, r, _, _, _⟩ := ins_get I.hok e
  have hn : mA m = none := RelO.none_of (by rw [← l]; exact r m)
  exact get_meth I.kIn O (c.get m) k.at_ k.fn hn h
theorem setattr_ok {y : V} {u : Value} {Q : Unit → Shared → Prop} (I : Inv X pins σ H s) (e : H a = some (.ins C dx fs)) (c : Cls X.K C) (n : NoAttr X.K C f) (hl : fs.length < 1000) (ry : RelV y u)
    (h : ∀ s', Inv X pins σ (upd H a (.ins C dx (putF f y fs))) s' → Q () s') : wpAny (model X.prog X.w) A (setAttr (.ref a) f u) Q E s := by
  obtain ⟨mA, O, r, wi, _, ho⟩ := ins_get I.hok e
  have hz : (fs.map (·.1)).length ≤ sizeLine := by rw [List.length_map, sizeLine_eq]; omega
  refine set_map I.kIn O c.sa c.po n.taker c.hd wi hz fun h' O' sb => h _ ?_
  have hd : ∃ o, h'.get? dx = some o := let ⟨o, _, _, e', _⟩ := O'.ns; ⟨o, e'⟩
  refine I.write (x := a) (e := dx) (by rw [e]; exact True.intro) (.inr ho) (fun b q hb z => (sb.2 b hb).trans z) hd ?_
  refine ⟨by rw [upd_ne O.ne]; exact ho, ?_, O.ne, O'.obj, _, O'.ns, fun g => ?_, fun g hg => ?_⟩
  · have := length_putF f y fs; omega
  · show RelO ((putF f y fs).lookup g) (if g = f then some u else mA g)
    rw [lookup_putF]
    by_cases q : g = f
    · rw [if_pos q, if_pos q]; exact ry
    · rw [if_neg q, if_neg q]; exact r g
  · by_cases q : g = f
    · rw [q]; exact (keys_putF f y fs).1
    · refine (keys_putF f y fs).2 g (wi g fun z => hg ?_)
      show (if g = f then some u else mA g) = none
      rw [if_neg q]; exact z
theorem Inv.made (I : Inv X pins σ H s) : Inv X pins σ (upd (upd H s.heap.objs.size (.own (s.heap.objs.size + 1))) (s.heap.objs.size + 1) (.ins C s.heap.objs.size []))
    { s with heap := (s.heap.push PySem.W.emptyDict).push (PySem.W.instObj C s.heap.objs.size) } := by
  have e1 : (s.heap.push PySem.W.emptyDict).get? s.heap.objs.size = some PySem.W.emptyDict := Heap.get?_push_size s.heap rfl
  have e2 : ((s.heap.push PySem.W.emptyDict).push (PySem.W.instObj C s.heap.objs.size)).get? (s.heap.objs.size + 1) = some (PySem.W.instObj C s.heap.objs.size) := by
    have := Heap.get?_push_size (s.heap.push PySem.W.emptyDict) (o := PySem.W.instObj C s.heap.objs.size) rfl
    rwa [Heap.size_push] at this
  have e3 : (s.heap.push PySem.W.emptyDict).Ns s.heap.objs.size (fun _ => none) := ⟨PySem.W.emptyDict, #[], _, e1, rfl, (fun e he => absurd he (by simp)), fun _ => rfl⟩
  have I1 := I.laid (a := s.heap.objs.size) (o := .own (s.heap.objs.size + 1)) (h' := s.heap.push PySem.W.emptyDict) (t' := s.toks) (fun b u q => Heap.get?_push_of_some _ q) (Nat.le_refl _) ⟨_, e1⟩
  refine I1.laid (a := s.heap.objs.size + 1) (o := .ins C s.heap.objs.size []) (t' := s.toks) (fun b u q => Heap.get?_push_of_some _ q) (Nat.le_of_eq (Heap.size_push _ _)) ?_
  have ne : s.heap.objs.size ≠ s.heap.objs.size + 1 := Nat.ne_of_lt (Nat.lt_succ_self _)
  refine ⟨by rw [upd_ne ne, upd_same], Nat.zero_le _, ne, e2, fun _ => none, (Heap.Ns1.of_empty e3).at fun o q => Heap.get?_push_of_some _ q, fun _ => True.intro, fun y hy => absurd rfl hy⟩
theorem attr_of {prog : Program} {w : World} {env : Env} {e : Expr} {f : Str} {pos : Pos} {s : Shared} {Q : Value → Shared → Prop} (hb : attributeBase e f env (eval e env) = eval e env)
    (h : wpAny (model prog w) A (eval e env) (fun o s₁ => wpAny (model prog w) A (getAttr o f true) Q E s₁) E s) : wpAny (model prog w) A (eval (.Attribute e f pos) env) Q E s :=
  Attribute_any_ h (by rw [arm_eval_Attribute, hb])
end
def tFld (K : PySem.W.Frag) (ta : TE) (f : Str) : TE := fun σ H Q => ta σ H fun x H1 => ∃ a C dx fs v, x = .ref a ∧ H1 a = some (.ins C dx fs) ∧ Cls K C ∧ NoAttr K C f ∧ fs.lookup f = some v ∧ Q v H1
def sFld (K : PySem.W.Frag) (ta tv : TE) (f : Str) : TS := fun D σ H => tv σ H fun y H1 => ta σ H1 fun x H2 => ∃ a C dx fs, x = .ref a ∧ H2 a = some (.ins C dx fs) ∧ Cls K C ∧ NoAttr K C f ∧ fs.length < 1000 ∧
  D.nx σ (upd H2 a (.ins C dx (putF f y fs)))
section
variable {X : Cx} {o e value : Expr} {f : Str} {pos pos' tpos : Pos} {ta tv : TE}
theorem pe_fld (he : PE X e ta) (hb : attributeBase e f X.env (eval e X.env) = eval e X.env) : PE X (.Attribute e f pos) (tFld X.K ta f) := by
  intro pins s σ H Q I h
  refine attr_of hb (thn (he pins s σ H _ I h) fun u s1 ⟨x, H1, I1, rx, a, C, dx, fs, v, ex, ea, c, n, l, q⟩ => ?_)
  subst ex
  obtain rfl : u = Value.ref a := rx
  exact getattr_ok I1 ea c n l fun u' s2 I2 ru => ⟨v, H1, I2, ru, q⟩
theorem ps_fld (ha : PE X o ta) (hv : PE X value tv) (hs : swapsWith value (some (.Attribute o f pos')) pos.line X.env = pure false) : PS X (.Assign [.Attribute o f pos'] value pos) (sFld X.K ta tv f) := by
  intro pins s σ H D I h
  refine plainObj_wpAny_Assign_Attribute (thn (hv pins s σ H _ I h) fun u s1 ⟨y, H1, I1, ry, q⟩ => thn (ha pins s1 σ H1 _ I1 q) fun ov s2 ⟨x, H2, I2, rx, a, C, dx, fs, ex, ea, c, n, l, q2⟩ => ?_) hs
  subst ex
  obtain rfl : ov = Value.ref a := rx
  exact setattr_ok I2 ea c n l ry fun s3 I3 => ⟨σ, _, I3, q2⟩
end
section
variable {X : Cx} {pins : List (Addr × Obj)} {σ : St} {H : Hp} {s : Shared} {A : Around} {E : Value → Shared → Prop} {Q : Value → Shared → Prop} {c : Value} {b : Bool}
inductive TyOf (K : PySem.W.Frag) (H : Hp) : V → Value → Prop where
  | non : TyOf K H .non (.type "NoneType")
  | bl (x : Bool) : TyOf K H (.bl x) (.type "bool")
  | int (i : Int) : TyOf K H (.int i) (.type "int")
  | str (x : Str) : TyOf K H (.str x) (.type "str")
  | flt (x : UInt64) : TyOf K H (.flt x) (.type "float")
  | lst {a : Addr} {xs : List V} (e : H a = some (.lst xs)) : TyOf K H (.ref a) (.type "list")
  | frz {a : Addr} {o : Obj} {xs : List V} (e : H a = some (.frz o (.lst xs))) : TyOf K H (.ref a) (.type "list")
  | tup {a : Addr} {xs : List V} (e : H a = some (.tup xs)) : TyOf K H (.ref a) (.type "tuple")
  | dK {a : Addr} {kvs : List (Key × V)} (e : H a = some (.dK kvs)) : TyOf K H (.ref a) (.type "dict")
  | dT {a : Addr} {kvs : List (List Key × V)} (e : H a = some (.dT kvs)) : TyOf K H (.ref a) (.type "dict")
  | ins {a C dx : Addr} {fs : List (Str × V)} (e : H a = some (.ins C dx fs)) (cl : Cls K C) (ha : PySem.W.findIn K (.ref C) "__class__" = some (some (.builtin "object.__class__")))
      (hn : PySem.W.specialIn K (.builtin "object.__class__") "__get__" = some (some (.builtin "getset_descriptor.__get__"))) (htk : PySem.W.takesIn K (.builtin "object.__class__") = some true)
      (hm : PySem.W.mroIn K C (.type "object") = some true) : TyOf K H (.ref a) (.ref C)
theorem isinst_ok {x : V} {u t : Value} (I : Inv X pins σ H s) (rx : RelV x u) (ty : TyOf X.K H x t) (e : PySem.W.kitOne X.K t c = some b) (h : ∀ tk, Q (.bool b) { s with toks := tk }) :
    wpAny (model X.prog X.w) A (call (.builtin "isinstance") [u, c]) Q E s := by
  cases ty with
  | non => cases (show u = Value.none from rx); exact PySem.W.kia_one PySem.W.kitx_none I.kIn True.intro e (fun z => nomatch z) h
  | bl y => cases (show u = Value.bool y from rx); exact PySem.W.kia_one PySem.W.kitx_bool I.kIn True.intro e (fun z => nomatch z) h
  | int i => obtain ⟨t, q⟩ := (show ∃ t, u = Value.int i t from rx); cases q; exact PySem.W.kia_one PySem.W.kitx_int I.kIn True.intro e (fun z => nomatch z) h
  | str y => obtain ⟨t, q⟩ := (show ∃ t, u = Value.str y t from rx); cases q; exact PySem.W.kia_one PySem.W.kitx_str I.kIn True.intro e (fun z => nomatch z) h
  | flt y => obtain ⟨t, q⟩ := (show ∃ t, u = Value.float y t from rx); cases q; exact PySem.W.kia_one PySem.W.kitx_float I.kIn True.intro e (fun z => nomatch z) h
  | @lst a xs ea =>
    cases (show u = Value.ref a from rx)
    obtain ⟨_, _, n, _, h1⟩ := (show ObjOk X.prog X.w H s.heap a (.lst xs) from I.hok a _ ea)
    exact PySem.W.kia_one PySem.W.kitx_list I.kIn ⟨_, h1, rfl⟩ e (fun z => nomatch z) h
  | @frz a ob xs ea =>
    cases (show u = Value.ref a from rx)
    obtain ⟨_, _, _, n, _, h1⟩ := (show ObjOk X.prog X.w H s.heap a (.frz ob (.lst xs)) from I.hok a _ ea)
    exact PySem.W.kia_one PySem.W.kitx_list I.kIn ⟨_, h1, rfl⟩ e (fun z => nomatch z) h
  | @tup a xs ea =>
    cases (show u = Value.ref a from rx)
    obtain ⟨_, _, _, p⟩ := (show ObjOk X.prog X.w H s.heap a (.tup xs) from I.hok a _ ea)
    obtain ⟨o, h1, h2, _⟩ := p
    exact PySem.W.kia_one PySem.W.kitx_tuple I.kIn ⟨o, h1, h2⟩ e (fun z => nomatch z) h
  | @dK a kvs ea =>
    cases (show u = Value.ref a from rx)
    obtain ⟨_, _, vs, _, p⟩ := (show ObjOk X.prog X.w H s.heap a (.dK kvs) from I.hok a _ ea)
    obtain ⟨o, es, ep, h1, h2, _⟩ := p
    exact PySem.W.kia_one PySem.W.kitx_dict I.kIn ⟨o, h1, h2.1⟩ e (fun z => nomatch z) h
  | @dT a kvs ea =>
    cases (show u = Value.ref a from rx)
    obtain ⟨_, _, xs, _, o, es, ep, h1, h2, _⟩ := (show ObjOk X.prog X.w H s.heap a (.dT kvs) from I.hok a _ ea)
    exact PySem.W.kia_one PySem.W.kitx_dict I.kIn ⟨o, h1, h2.1⟩ e (fun z => nomatch z) h
  | @ins a C dx fs ea cl ha hn htk hm =>
    cases (show u = Value.ref a from rx)
    obtain ⟨mA, O, _⟩ := ins_get I.hok ea
    obtain ⟨od, J, _⟩ := O.look
    exact PySem.W.kia_one (PySem.W.kitx_own (cl.get _) cl.hd ha hn htk hm) I.kIn J e (fun z => nomatch z) h
end
end L2
namespace L2
open PySem PySem.Spec PyProof.Rows
structure Room (k : Nat) (A : Around) : Prop where
  hd : A.handled = none
  dp : A.depth + 3 * k + 5 < recursionLimit
  un : A.units + 16 * k + 200 < cLine
theorem Room.mono {j k : Nat} {A : Around} (r : Room k A) (h : j ≤ k) : Room j A := ⟨r.hd, by have := r.dp; omega, by have := r.un; omega⟩
theorem Room.deeper {k : Nat} {A : Around} (r : Room (k + 1) A) (env : Env) : Room k (A.deeper env) :=
  ⟨r.hd, by have := r.dp; show A.depth + 1 + 3 * k + 5 < _; omega, by have := r.un; show A.units + 3 + 16 * k + 200 < _; omega⟩
theorem Room.in1 {k : Nat} {A : Around} (r : Room (k + 1) A) : Room k A.in1 :=
  ⟨r.hd, by have := r.dp; show A.depth + 3 * k + 5 < _; omega, by have := r.un; show A.units + 1 + 16 * k + 200 < _; omega⟩
theorem make_depth {A : Around} {C : Addr} {us : List Value} {kw : List (Str × Value)} : (A.under (.builtin "type.__call__" ⟨.ref C :: us, kw⟩)).depth = A.depth + 1 := by
  first | rfl | simp [Around.under, Code.weight, Code.isCreation, Code.isGuard, Code.isCaller, Code.frames, Code.isFrame, guardIds]
theorem make_units {A : Around} {C : Addr} {us : List Value} {kw : List (Str × Value)} : (A.under (.builtin "type.__call__" ⟨.ref C :: us, kw⟩)).units = A.units + 1 := by
  first | rfl | simp [Around.under, Code.cUnits, Code.frames, Code.isFrame]
theorem Room.make {k : Nat} {A : Around} (r : Room (k + 1) A) (C : Addr) (us : List Value) (kw : List (Str × Value)) : Room k (A.under (.builtin "type.__call__" ⟨.ref C :: us, kw⟩)) :=
  ⟨r.hd, by have := r.dp; rw [make_depth]; omega, by have := r.un; rw [make_units]; omega⟩
theorem Room.depth {k : Nat} {A : Around} (r : Room k A) : A.depth < recursionLimit := by have := r.dp; omega
theorem Room.units {k : Nat} {A : Around} (r : Room k A) : A.units + 64 < cLine := by have := r.un; omega
def tNil : TA := fun _ H Q => Q [] H
def tCons (ta : TE) (tr : TA) : TA := fun σ H Q => ta σ H fun x H1 => tr σ H1 fun xs H2 => Q (x :: xs) H2
section
variable {X : Cx} {e : Expr} {es : List Expr} {te : TE} {t : TA} {pos : Pos}
theorem pa_nil : PA X [] tNil := fun _ _ _ _ H Q I h => Calls.spliced_nil ⟨[], H, I, .nil, h⟩
theorem pa_cons (ha : PE X e te) (hr : PA X es t) (hs : starEach (e :: es) X.env = (false, eval e X.env) :: starEach es X.env := by rfl) : PA X (e :: es) (tCons te t) := by
  intro pos pins s σ H Q I h
  rw [hs]
  show wpAny _ _ (spliced ((false, eval e X.env) :: backTo pos (starEach es X.env))) _ _ s
  refine Calls.spliced_cons (thn (ha pins s σ H _ I h) fun u s1 ⟨x, H1, I1, r1, q1⟩ => ?_)
  exact thn (hr pos pins s1 σ H1 _ I1 q1) fun us s2 ⟨xs, H2, I2, r2, q2⟩ => ⟨x :: xs, H2, I2, .cons r1 r2, q2⟩
def tTup (t : TA) : TE := fun σ H Q => t σ H fun xs H1 => xs.length ≤ sizeLine ∧ ∀ p, H1 p = none → Q (.ref p) (upd H1 p (.tup xs))
def tLst (t : TA) : TE := fun σ H Q => t σ H fun xs H1 => xs.length ≤ sizeLine ∧ ∀ p, H1 p = none → Q (.ref p) (upd H1 p (.lst xs))
theorem pe_tup {x1} (h : PA X es t) : PE X (.Tuple es x1 pos) (tTup t) := by
  intro pins s σ H Q I hq
  refine wpAny_Tuple_spliced (thn (h pos pins s σ H _ I hq) fun us s1 ⟨xs, H1, I1, r, z, q⟩ => ⟨by rw [← r.length]; exact z, ?_⟩)
  have hf : H1 s1.heap.objs.size = none := I1.hok.fresh (Nat.le_refl _)
  refine ⟨.ref s1.heap.objs.size, upd H1 s1.heap.objs.size (.tup xs), I1.laid (t' := s1.toks) (fun b u e => Heap.get?_push_of_some _ e) (Nat.le_refl _) ?_, rfl, q _ hf⟩
  exact ⟨z, us, r, ⟨_, Heap.get?_push_size _ rfl, rfl, _, rfl⟩⟩
theorem pe_lst (h : PA X es t) : PE X (.List es pos) (tLst t) := by
  intro pins s σ H Q I hq
  refine wpAny_List_spliced (thn (h pos pins s σ H _ I hq) fun us s1 ⟨xs, H1, I1, r, z, q⟩ => ⟨by rw [← r.length]; exact z, ?_⟩)
  have hf : H1 s1.heap.objs.size = none := I1.hok.fresh (Nat.le_refl _)
  refine ⟨.ref s1.heap.objs.size, upd H1 s1.heap.objs.size (.lst xs), I1.laid (t' := s1.toks) (fun b u e => Heap.get?_push_of_some _ e) (Nat.le_refl _) ?_, rfl, q _ hf⟩
  exact ⟨z, us, 0, r, Heap.get?_push_size _ rfl⟩
end
abbrev Sp := List V → Hp → VK → XK → Prop
abbrev CXT := List Env → Hp → Shared → XK → Value → Shared → Prop
structure Env0 (P : Program) (w : World) (K : PySem.W.Frag) (mg : Str → Option Value) (base : Heap) (A : Around) (outer : List Env) (s : Shared) (H : Hp) : Prop where
  frames : A.frames = some outer
  mod : Mod K mg base
  bs : ∀ b o, base.get? b = some o → s.heap.get? b = some o ∧ H b = none
  bsz : base.objs.size ≤ s.heap.objs.size
  funs : s.heap.FunFrames base outer
  frf : ∀ b ∈ frs outer, H b = none
  hok : HOk P w H s.heap
  bare : AllBare s.gens
def CE (outer : List Env) (P : Program) (w : World) (H : Hp) (s : Shared) (Q : VK) (u : Value) (s' : Shared) : Prop :=
  ∃ v H', s'.os = s.os ∧ AllBare s'.gens ∧ Un (frs outer) [] H H' s.heap s'.heap ∧ HOk P w H' s'.heap ∧ RelV v u ∧ Q v H'
def CR (CX : CXT) (outer : List Env) (P : Program) (w : World) (H : Hp) (s : Shared) (Q : VK) (E : XK) (r : Result) (s' : Shared) : Prop :=
  match r with
  | .ok (.ret u) => CE outer P w H s Q u s'
  | .ok _ => False
  | .error e => CX outer H s E e s'
structure FnOk (P : Program) (w : World) (K : PySem.W.Frag) (mg : Str → Option Value) (base : Heap) (CX : CXT) (k : Nat) (f : Addr) (fd : FuncData) (ps : List Str) (sp : Sp) : Prop where
  len : ∀ vs H Q E, sp vs H Q E → vs.length = ps.length
  run : ∀ (A : Around) (outer : List Env) (s : Shared) (H : Hp) (args : Args) (us : List Value) (vs : List V) (Q : VK) (E : XK), Room k A → Env0 P w K mg base A outer s H → BindsTo s fd args (ps.zip us) → Vals vs us → sp vs H Q E →
    codeAny (model P w) A (.call (.ref f) args) (CR CX outer P w H s Q E) s
theorem FnOk.mono {P : Program} {w : World} {K : PySem.W.Frag} {mg : Str → Option Value} {base : Heap} {CX : CXT} {j k : Nat} {f : Addr} {fd : FuncData} {ps : List Str} {sp : Sp} (F : FnOk P w K mg base CX j f fd ps sp) (h : j ≤ k) :
    FnOk P w K mg base CX k f fd ps sp := ⟨F.len, fun A outer s H args us vs Q E hr => F.run A outer s H args us vs Q E (hr.mono h)⟩
theorem FnOk.imp {P : Program} {w : World} {K : PySem.W.Frag} {mg : Str → Option Value} {base : Heap} {CX : CXT} {k : Nat} {f : Addr} {fd : FuncData} {ps : List Str} {sp sp' : Sp} (F : FnOk P w K mg base CX k f fd ps sp)
    (h : ∀ vs H Q E, sp' vs H Q E → sp vs H Q E) : FnOk P w K mg base CX k f fd ps sp' :=
  ⟨fun vs H Q E q => F.len vs H Q E (h _ _ _ _ q), fun A outer s H args us vs Q E hr he hb hv hs => F.run A outer s H args us vs Q E hr he hb hv (h _ _ _ _ hs)⟩
theorem Env0.make {P : Program} {w : World} {K : PySem.W.Frag} {mg : Str → Option Value} {base : Heap} {A : Around} {outer : List Env} {s : Shared} {H : Hp} (e : Env0 P w K mg base A outer s H) (C : Addr) (us : List Value) (kw : List (Str × Value)) :
    Env0 P w K mg base (A.under (.builtin "type.__call__" ⟨.ref C :: us, kw⟩)) outer s H := ⟨by first | exact e.frames | (simpa [Around.under, Code.envs, Code.isFrame, pushEnvs] using e.frames), e.mod, e.bs, e.bsz, e.funs, e.frf, e.hok, e.bare⟩
theorem Env0.in1 {P : Program} {w : World} {K : PySem.W.Frag} {mg : Str → Option Value} {base : Heap} {A : Around} {outer : List Env} {s : Shared} {H : Hp} (e : Env0 P w K mg base A outer s H) :
    Env0 P w K mg base A.in1 outer s H := ⟨e.frames, e.mod, e.bs, e.bsz, e.funs, e.frf, e.hok, e.bare⟩
section
variable {X : Cx} {pins : List (Addr × Obj)} {σ : St} {H : Hp} {s s' : Shared}
theorem Inv.env0 (I : Inv X pins σ H s) : Env0 X.prog X.w X.K X.mg X.base X.A X.stack s H :=
  ⟨I.ok.frames, I.ok.mod, I.bs, Nat.le_trans I.ok.bsz I.sz, I.stack, I.stkFree, I.hok, I.bare⟩
theorem Inv.after {Q : VK} {u : Value} (I : Inv X pins σ H s) (h : CE X.stack X.prog X.w H s Q u s') : EP X pins σ Q u s' := by
  obtain ⟨v, H', os, bare, un, hok, r, q⟩ := h
  obtain ⟨hh, g, d, t, os'⟩ := s'
  obtain rfl : os' = s.os := os
  exact ⟨v, H', I.call (h' := hh) (g' := g) (d' := d) (t' := t) (ch := []) un hok bare (fun b z => absurd z (by simp)), r, q⟩
end
def tCall (sp : Sp) (dvs : List V) (E : XK) (t : TA) : TE := fun σ H Q => t σ H fun vs H1 => sp (vs ++ dvs) H1 Q E
def tMeth (C : Addr) (m : Str) (sp : Sp) (dvs : List V) (E : XK) (ta : TE) (t : TA) : TE := fun σ H Q => ta σ H fun x H1 => ∃ a dx fs, x = .ref a ∧ H1 a = some (.ins C dx fs) ∧ fs.lookup m = none ∧
  t σ H1 fun vs H2 => sp (x :: (vs ++ dvs)) H2 Q E
def tMake (C : Addr) (sp : Sp) (dvs : List V) (E : XK) (t : TA) : TE := fun σ H Q => t σ H fun vs H1 => ∀ x dx, H1 x = none → H1 dx = none → dx ≠ x →
  sp (.ref x :: (vs ++ dvs)) (upd (upd H1 dx (.own x)) x (.ins C dx [])) (fun v H2 => v = .non ∧ Q (.ref x) H2) E
def Binds (K : PySem.W.Frag) (fd : FuncData) (ps : List Str) (ds : List Value) : Prop :=
  ∀ (s : Shared) (us : List Value), K.In s.heap → (us ++ ds).length = ps.length → BindsTo s fd ⟨us, []⟩ (ps.zip (us ++ ds))
theorem Binds.all {K : PySem.W.Frag} {fd : FuncData} {ps : List Str} (h : ∀ us : List Value, us.length = ps.length → bindArgs fd ⟨us, []⟩ = pure (ps.zip us)) : Binds K fd ps [] := fun s us _ hl => by
  rw [List.append_nil] at hl ⊢
  exact .of_eq (h us hl)
def Passes (CX : CXT) (X : Cx) (E : XK) : Prop := ∀ (pins : List (Addr × Obj)) (σ : St) (H : Hp) (s : Shared) (e : Value) (s' : Shared), Inv X pins σ H s → CX X.stack H s E e s' → X.xe e s'
section
variable {X : Cx} {CX : CXT} {k : Nat} {f C : Addr} {fd : FuncData} {ps : List Str} {sp : Sp} {dvs : List V} {ds : List Value} {E : XK} {x m : Str} {p pos apos : Pos} {e o : Expr} {es : List Expr} {ta : TE} {t : TA}
theorem run_fn {pins : List (Addr × Obj)} {σ : St} {H : Hp} {s : Shared} {Q : VK} {us : List Value} {vs : List V} (F : FnOk X.prog X.w X.K X.mg X.base CX k f fd ps sp) (hr : Room k X.A) (hb : Binds X.K fd ps ds) (hd : Vals dvs ds) (hx : Passes CX X E)
    (I : Inv X pins σ H s) (r : Vals vs us) (h : sp (vs ++ dvs) H Q E) : wpAny (model X.prog X.w) X.A (call (.ref f) us) (EP X pins σ Q) X.xe s := by
  have r2 : Vals (vs ++ dvs) (us ++ ds) := r.append hd
  have hl : (us ++ ds).length = ps.length := by rw [← r2.length]; exact F.len _ _ _ _ h
  refine wpAny_call (codeAny_mono (F.run X.A X.stack s H ⟨us, []⟩ (us ++ ds) (vs ++ dvs) Q E hr I.env0 (hb s us I.kIn hl) r2 h) fun r s' hq => ?_)
  cases r with
  | error e => exact hx pins σ H s e s' I hq
  | ok fl =>
    cases fl with
    | ret u => exact I.after hq
    | next => exact False.elim hq
    | brk => exact False.elim hq
    | cont => exact False.elim hq
theorem pe_call (F : FnOk X.prog X.w X.K X.mg X.base CX k f fd ps sp) (hr : Room k X.A) (hg : Gl X x) (hm : X.mg x = some (.ref f)) (hk : PySem.W.keepIn X.K (.ref f) = true) (hb : Binds X.K fd ps ds) (hd : Vals dvs ds) (hx : Passes CX X E)
    (ha : PA X (e :: es) t) (hdb : (x == ("__debug__" : Str)) = false := by decide) (he : starEach (e :: es) X.env = (false, eval e X.env) :: starEach es X.env := by rfl) (hpl : (backTo pos (starEach es X.env)).any (·.1) = false := by rfl) :
    PE X (.Call (.Name x p) (e :: es) [] pos) (tCall sp dvs E t) := by
  intro pins s σ H Q I h
  refine wpAny_Call_Name_kw (ld_glob I hg hm ?_ hdb)
  refine PySem.W.callWith_K (h₀ := X.base) I.ok.mod.kin hk (thn (ha pos pins s σ H _ I h) fun us s1 ⟨vs, H1, I1, r, q⟩ => ⟨I1.kIn, ?_⟩) he hpl
  exact run_fn F hr hb hd hx I1 r q
theorem pe_meth {pl : Sem Bool} (he : PE X o ta) (c : Cls X.K C) (hm : Meth X.K C m f) (F : FnOk X.prog X.w X.K X.mg X.base CX k f fd ps sp) (hr : Room k X.A) (hb : Binds X.K fd ps ds) (hd : Vals dvs ds) (hx : Passes CX X E) (ha : PA X (e :: es) t)
    (hst : starEach (e :: es) X.env = (false, eval e X.env) :: starEach es X.env := by rfl) (hpl : (backTo pos (starEach es X.env)).any (·.1) = false := by rfl)
    (ht : eval (.Call (.Attribute o m apos) (e :: es) [] pos) X.env = (do
      let ov ← eval o X.env
      standAt apos.atName
      let (f, first) ← holding [ov] (getMethod ov m pl)
      callWith pos f first (backTo pos (starEach (e :: es) X.env)) (backToKw pos (keywordEach [] X.env))) := by rfl) :
    PE X (.Call (.Attribute o m apos) (e :: es) [] pos) (tMeth C m sp dvs E ta t) := by
  intro pins s σ H Q I h
  refine PySem.W.methodCall_KW (pl := pl) (thn (he pins s σ H _ I h) fun u s1 ⟨x, H1, I1, rx, a, dx, fs, ex, ea, l, q⟩ => ?_) ht
  subst ex
  obtain rfl : u = Value.ref a := rx
  refine getmeth_ok I1 ea c hm l ?_
  refine PySem.W.callWith_K (first := [.ref a]) (h₀ := X.base) I.ok.mod.kin hm.kp (thn (ha pos pins s1 σ H1 _ I1 q) fun us s2 ⟨vs, H2, I2, r, q2⟩ => ⟨I2.kIn, ?_⟩) hst hpl
  exact run_fn (us := .ref a :: us) (vs := .ref a :: vs) F hr hb hd hx I2 (.cons rfl r) q2
theorem pe_meth0 {pl : Sem Bool} (he : PE X o ta) (c : Cls X.K C) (hm : Meth X.K C m f) (F : FnOk X.prog X.w X.K X.mg X.base CX k f fd ps sp) (hr : Room k X.A) (hb : Binds X.K fd ps ds) (hd : Vals dvs ds) (hx : Passes CX X E)
    (ht : eval (.Call (.Attribute o m apos) [] [] pos) X.env = (do
      let ov ← eval o X.env
      standAt apos.atName
      let (f, first) ← holding [ov] (getMethod ov m pl)
      callWith pos f first (backTo pos (starEach [] X.env)) (backToKw pos (keywordEach [] X.env))) := by rfl) :
    PE X (.Call (.Attribute o m apos) [] [] pos) (tMeth C m sp dvs E ta tNil) := by
  intro pins s σ H Q I h
  refine PySem.W.methodCall_KW (pl := pl) (thn (he pins s σ H _ I h) fun u s1 ⟨x, H1, I1, rx, a, dx, fs, ex, ea, l, q⟩ => ?_) ht
  subst ex
  obtain rfl : u = Value.ref a := rx
  refine getmeth_ok I1 ea c hm l ?_
  exact PySem.W.callWith_K0 (first := [.ref a]) I1.kIn hm.kp (run_fn (us := [.ref a]) (vs := [.ref a]) F hr hb hd hx I1 (.cons rfl .nil) q)
structure Mk (K : PySem.W.Frag) (C f : Addr) : Prop where
  makes : PySem.W.makesIn K C = true
  init : PySem.W.findIn K (.ref C) "__init__" = some (some (.ref f))
  fn : PySem.W.isFn K (.ref f) = true
  kp : PySem.W.keepIn K (.ref C) = true
theorem run_make {pins : List (Addr × Obj)} {σ : St} {H : Hp} {s : Shared} {Q : VK} {us : List Value} {vs : List V} (M : Mk X.K C f) (F : FnOk X.prog X.w X.K X.mg X.base CX k f fd ps sp) (hr : Room (k + 1) X.A) (hb : Binds X.K fd ps ds) (hd : Vals dvs ds)
    (hx : Passes CX X E) (I : Inv X pins σ H s) (r : Vals vs us)
    (h : ∀ x dx, H x = none → H dx = none → dx ≠ x → sp (.ref x :: (vs ++ dvs)) (upd (upd H dx (.own x)) x (.ins C dx [])) (fun v H2 => v = .non ∧ Q (.ref x) H2) E) :
    wpAny (model X.prog X.w) X.A (call (.ref C) us) (EP X pins σ Q) X.xe s := by
  have hq := h (s.heap.objs.size + 1) s.heap.objs.size (I.hok.fresh (Nat.le_succ _)) (I.hok.fresh (Nat.le_refl _)) (Nat.ne_of_lt (Nat.lt_succ_self _))
  have I2 := Inv.made (C := C) I
  have r2 : Vals (V.ref (s.heap.objs.size + 1) :: (vs ++ dvs)) (Value.ref (s.heap.objs.size + 1) :: (us ++ ds)) := .cons rfl (r.append hd)
  have hl : (Value.ref (s.heap.objs.size + 1) :: us ++ ds).length = ps.length := by
    have e := r2.length
    rw [F.len _ _ _ _ hq] at e
    exact e.symm
  refine wpAny_call (make_map (f := f) I.kIn M.makes M.init (beq_iff_eq.mp M.fn) (codeAny_mono (F.run _ X.stack _ _ ⟨Value.ref (s.heap.objs.size + 1) :: us, []⟩ (Value.ref (s.heap.objs.size + 1) :: (us ++ ds)) _ _ E (hr.make C us [])
    (I2.env0.make C us []) (hb _ (Value.ref (s.heap.objs.size + 1) :: us) I2.kIn hl) r2 hq) fun r s' hq' => ?_))
  cases r with
  | error e => exact hx pins σ _ _ e s' I2 hq'
  | ok fl =>
    cases fl with
    | ret u =>
      obtain ⟨v, H', I3, rv, ev, q3⟩ := I2.after hq'
      subst ev
      exact ⟨rv, ⟨V.ref (s.heap.objs.size + 1), H', I3, rfl, q3⟩⟩
    | next => exact False.elim hq'
    | brk => exact False.elim hq'
    | cont => exact False.elim hq'
theorem pe_make0 (M : Mk X.K C f) (F : FnOk X.prog X.w X.K X.mg X.base CX k f fd ps sp) (hr : Room (k + 1) X.A) (hg : Gl X x) (hm : X.mg x = some (.ref C)) (hb : Binds X.K fd ps ds) (hd : Vals dvs ds) (hx : Passes CX X E)
    (hdb : (x == ("__debug__" : Str)) = false := by decide) : PE X (.Call (.Name x p) [] [] pos) (tMake C sp dvs E tNil) := by
  intro pins s σ H Q I h
  refine wpAny_Call_Name_kw (ld_glob I hg hm ?_ hdb)
  exact PySem.W.callWith_K0 I.kIn M.kp (run_make (us := []) M F hr hb hd hx I .nil h)
end
def PK (X : Cx) (kws : List Keyword) (t : TA) : Prop :=
  ∀ (pos : Pos) (pins : List (Addr × Obj)) (s : Shared) (σ : St) (H : Hp) (Q : List V → Hp → Prop), Inv X pins σ H s → t σ H Q → wpAny (model X.prog X.w) X.A (evalAll ((backToKw pos (keywordEach kws X.env)).map (·.2))) (AP X pins σ Q) X.xe s
section
variable {X : Cx} {CX : CXT} {k : Nat} {f C : Addr} {fd : FuncData} {ps ks : List Str} {sp : Sp} {E : XK} {x m : Str} {p pos apos kpos : Pos} {e o : Expr} {es : List Expr} {kws : List Keyword} {te ta : TE} {t tk : TA} {nm : Option Str}
structure KBinds (K : PySem.W.Frag) (fd : FuncData) (ps ks : List Str) (g : List Value → List Value → List Value) (gV : List V → List V → List V) : Prop where
  to : ∀ (s : Shared) (us ws : List Value), K.In s.heap → (g us ws).length = ps.length → BindsTo s fd ⟨us, ks.zip ws⟩ (ps.zip (g us ws))
  rel : ∀ {vs : List V} {us : List Value} {zs : List V} {ws : List Value}, Vals vs us → Vals zs ws → Vals (gV vs zs) (g us ws)
variable {g : List Value → List Value → List Value} {gV : List V → List V → List V}
end
structure FnScope (N P : List Str) (sc : Scope) : Prop where
  kind : sc.kind = .function
  co : sc.isCoroutine = false
  gen : sc.isGenerator = false
  nd : N.Nodup
  pre : N.take P.length = P
  par : ∀ x ∈ P, sc.names.lookup x = some .local ∨ sc.names.lookup x = some .cell
  nofree : ∀ y ∈ sc.names, y.2 ≠ .free
theorem bindL_out {kindOf : Str → Option NameKind} {x : Str} : ∀ {binds : List (Str × Value)} {m : Str → Option Value}, (∀ v, (x, v) ∉ binds) → bindL kindOf binds m x = m x
  | [], _, _ => rfl
  | (n, v) :: r, m, h => by
    unfold bindL
    rw [bindL_out fun w hw => h w (List.mem_cons_of_mem _ hw)]
    split
    · have : x ≠ n := by rintro rfl; exact h v List.mem_cons_self
      simp [this]
    · rfl
theorem bindC_out {kindOf : Str → Option NameKind} {x : Str} : ∀ {binds : List (Str × Value)} {m : Str → Option Value}, (∀ v, (x, v) ∉ binds) → bindC kindOf binds m x = m x
  | [], _, _ => rfl
  | (n, v) :: r, m, h => by
    unfold bindC
    rw [bindC_out fun w hw => h w (List.mem_cons_of_mem _ hw)]
    split
    · rfl
    · have : x ≠ n := by rintro rfl; exact h v List.mem_cons_self
      simp [this]
theorem bindL_get {kindOf : Str → Option NameKind} {x : Str} {v : Value} : ∀ {P : List Str} {vs : List Value} {i : Nat} {m : Str → Option Value}, P.Nodup → P[i]? = some x → vs[i]? = some v → kindOf x = some .local →
    bindL kindOf (P.zip vs) m x = some v
  | [], _, _, _, _, h, _, _ => by simp at h
  | _ :: _, [], _, _, _, _, h, _ => by simp at h
  | p :: P, w :: vs, 0, m, nd, h1, h2, hk => by
    simp at h1 h2; subst h1; subst h2
    show bindL kindOf ((p, w) :: P.zip vs) m p = _
    unfold bindL
    rw [bindL_out fun v hv => (List.nodup_cons.mp nd).1 (List.of_mem_zip hv).1, if_pos hk]
    simp
  | p :: P, w :: vs, i + 1, m, nd, h1, h2, hk => by
    show bindL kindOf ((p, w) :: P.zip vs) m x = _
    unfold bindL
    exact bindL_get (i := i) (List.nodup_cons.mp nd).2 (by simpa using h1) (by simpa using h2) hk
theorem bindC_get {kindOf : Str → Option NameKind} {x : Str} {v : Value} : ∀ {P : List Str} {vs : List Value} {i : Nat} {m : Str → Option Value}, P.Nodup → P[i]? = some x → vs[i]? = some v → kindOf x ≠ some .local →
    bindC kindOf (P.zip vs) m x = some v
  | [], _, _, _, _, h, _, _ => by simp at h
  | _ :: _, [], _, _, _, _, h, _ => by simp at h
  | p :: P, w :: vs, 0, m, nd, h1, h2, hk => by
    simp at h1 h2; subst h1; subst h2
    show bindC kindOf ((p, w) :: P.zip vs) m p = _
    unfold bindC
    rw [bindC_out fun v hv => (List.nodup_cons.mp nd).1 (List.of_mem_zip hv).1, if_neg hk]
    simp
  | p :: P, w :: vs, i + 1, m, nd, h1, h2, hk => by
    show bindC kindOf ((p, w) :: P.zip vs) m x = _
    unfold bindC
    exact bindC_get (i := i) (List.nodup_cons.mp nd).2 (by simpa using h1) (by simpa using h2) hk
def start (N : List Str) (vs : List V) : St := vs.map some ++ List.replicate (N.length - vs.length) none
def cxOf (CX : CXT) (P : Program) (w : World) (K : PySem.W.Frag) (mg : Str → Option Value) (base : Heap) (N : List Str) (qual : Str) (scope : Scope) (f : Addr) (cd : Value) (A : Around) (outer : List Env) (s : Shared) (H : Hp) (E : XK) : Cx where
  prog := P
  w := w
  K := K
  mg := mg
  base := base
  A := A.deeper (envOfC qual scope s.heap.objs.size f cd)
  N := N
  s_0 := s
  H_0 := H
  env := envOfC qual scope s.heap.objs.size f cd
  outer := outer
  stack := envOfC qual scope s.heap.objs.size f cd :: outer
  ex := []
  calm := true
  fn := fun _ => true
  pn := []
  xe := fun e s' => wpAny (model P w) (A.deeper (envOfC qual scope s.heap.objs.size f cd)) (leaving (envOfC qual scope s.heap.objs.size f cd) e) (fun _ s'' => CX outer H s E e s'') (fun e' s'' => CX outer H s E e' s'') s'
theorem cell_has {sc : Scope} {n : Nat} {x : Str} (h : sc.names.lookup x = some .cell) : ∃ c, (cellsFrom n sc.names []).lookup x = some c := by
  have q := PySem.W.cellsFrom_some sc.names n [] (.inl h)
  exact Option.isSome_iff_exists.mp q
theorem inv_start {CX : CXT} {P : Program} {w : World} {K : PySem.W.Frag} {mg : Str → Option Value} {base : Heap} {N ps : List Str} {qual : Str} {scope : Scope} {f : Addr} {cd : Value} {A : Around} {outer : List Env} {s s1 : Shared} {H : Hp} {E : XK} {us : List Value} {vs : List V}
    (S : FnScope N ps scope) (hd : A.handled = none) (e0 : Env0 P w K mg base A outer s H) (hl : vs.length = ps.length) (r : Vals vs us)
    (x : InCallC s s.heap.objs.size (bindL (envOfC qual scope s.heap.objs.size f cd).kindOf (ps.zip us) fun _ => none) (cellsFrom (s.heap.objs.size + 1) scope.names []) (bindC (envOfC qual scope s.heap.objs.size f cd).kindOf (ps.zip us) fun _ => none) s1) :
    Inv (cxOf CX P w K mg base N qual scope f cd A outer s H E) [] (start N vs) H s1 := by
  have hpl : ps.length ≤ N.length := by have := congrArg List.length S.pre; rw [List.length_take] at this; omega
  obtain ⟨h1, tk, rfl, hk⟩ := x.done
  have noA : ∀ b : Addr, b ∉ (cxOf CX P w K mg base N qual scope f cd A outer s H E).ex := fun b z => absurd (show b ∈ ([] : List Addr) from z) (by simp)
  refine ⟨⟨e0.mod, S.kind, rfl, rfl, Nat.le_refl _, fun y z c h1 h2 => ?_, fun y hy => ?_, fun y c _ h => ?_, fun _ => hd, Around.frames_deeper e0.frames, .inr ⟨rfl, rfl⟩, fun b z => absurd z (noA b), e0.bs, e0.bsz, fun b _ _ => noA b, fun b z => absurd z (noA b), e0.funs, e0.frf⟩,
    rfl, e0.bare, Un.kept hk, ⟨_, x.toInCall.ns, fun i y v h1 h2 h3 => ?_⟩, fun y c h => ⟨_, x.cell y c h⟩, e0.hok.fresh (Nat.le_refl _), fun y c h => ?_, fun p hp => absurd (show p ∈ ([] : List (Addr × Obj)) from hp) (by simp), e0.hok.kept hk, ?_⟩
  · exact name_of_addr x.apart (PySem.mem_of_lookup h1) (PySem.mem_of_lookup h2)
  · have hy : scope.names.lookup y = some .cell ∨ scope.names.lookup y = some .free := hy
    rcases hy with hy | hy
    · exact cell_has hy
    · exact absurd rfl (S.nofree _ (PySem.mem_of_lookup hy))
  · exact Nat.le_of_lt (x.above y c (PySem.mem_of_lookup h))
  · have hi : i < vs.length := by
      unfold start at h2
      by_cases hi : i < vs.length
      · exact hi
      · rw [List.getElem?_append_right (by simpa using hi)] at h2
        rw [List.getElem?_replicate] at h2
        split at h2 <;> cases h2
    have ha : vs[i]? = some v := by
      unfold start at h2
      rw [List.getElem?_append_left (by simpa using hi), List.getElem?_map] at h2
      cases e : vs[i]? with
      | none => rw [e] at h2; cases h2
      | some a => rw [e] at h2; cases h2; rfl
    obtain ⟨u, hu, rv⟩ := r.get ha
    have hp : ps[i]? = some y := by
      rw [← S.pre, List.getElem?_take_of_lt (by omega)]; exact h1
    have ndP : ps.Nodup := by rw [← S.pre]; exact S.nd.sublist (List.take_sublist _ _)
    refine ⟨u, rv, ?_⟩
    rcases S.par y (List.mem_of_getElem? hp) with k | k
    · exact .inl ⟨k, bindL_get ndP hp hu k⟩
    · obtain ⟨c, e⟩ := cell_has (n := s.heap.objs.size + 1) k
      refine .inr ⟨.inl k, c, e, ?_⟩
      have q := x.cell y c e
      rw [bindC_get ndP hp hu (by show scope.names.lookup y ≠ _; rw [k]; decide)] at q
      exact q
  · exact e0.hok.fresh (Nat.le_of_lt (x.above y c (PySem.mem_of_lookup h)))
  · unfold start
    show _ = N.length
    rw [List.length_append, List.length_map, List.length_replicate]
    omega
theorem fn_of {CX : CXT} {P : Program} {w : World} {K : PySem.W.Frag} {mg : Str → Option Value} {base : Heap} {k : Nat} {f : Addr} {name qual : Str} {params : Arguments} {body : List Stmt} {scope : Scope} {dV kV doc pm cdv ct oc : Value} {an od : Option Addr}
    {osl : Array (Option Value)} {N ps : List Str} {sp : Sp} (lk : K.lookup f = some ⟨oc, od, .func (PySem.W.fnOf name qual params body scope dV kV doc pm an cdv ct), osl⟩) (hcd : PySem.W.codeIn K cdv qual = true) (S : FnScope N ps scope)
    (len : ∀ vs H Q E, sp vs H Q E → vs.length = ps.length)
    (hbody : ∀ (A : Around) (outer : List Env) (s : Shared) (H : Hp) (vs : List V) (Q : VK) (E : XK), Room k (A.deeper (envOfC qual scope s.heap.objs.size f cdv)) → sp vs H Q E →
      ∃ t, PSs (cxOf CX P w K mg base N qual scope f cdv A outer s H E) body t ∧ t { nx := fun _ H' => Q .non H', rt := Q } (start N vs) H) :
    FnOk P w K mg base CX (k + 1) f (PySem.W.fnOf name qual params body scope dV kV doc pm an cdv ct) ps sp := by
  refine ⟨len, fun A outer s H args us vs Q E hr e0 hb r hsp => ?_⟩
  have hl := len _ _ _ _ hsp
  have KX : K.In s.heap := e0.mod.kin.keeps fun b o e => (e0.bs b o e).1
  have lim : s.heap.NoLimit := e0.mod.nolimit.keeps fun b o e => (e0.bs b o e).1
  have hkind : ∀ y ∈ ps.zip us, scope.names.lookup y.1 = some .local ∨ (scope.names.lookup y.1 = some .cell ∧ ((cellsFrom (s.heap.objs.size + 1) scope.names []).lookup y.1).isSome = true) := fun ⟨n, v⟩ hy => by
    rcases S.par n (List.of_mem_zip hy).1 with q | q
    · exact .inl q
    · exact .inr ⟨q, PySem.W.cellsFrom_some _ _ _ (.inl q)⟩
  refine codeAny_call_function hr.depth (KX _ _ lk) rfl S.co S.gen rfl (PySem.W.codeRec_of KX hcd) (hb _ _ _ _ ?_)
  refine wpAny_newFunctionEnv_cells S.kind hkind fun env he s1 x => ?_
  subst he
  refine ⟨lim.keeps x.toInCall.keep, codeAny_func ?_⟩
  obtain ⟨t, ht, hq⟩ := hbody A outer s H vs Q E (hr.deeper _) hsp
  have I : Inv (cxOf CX P w K mg base N qual scope f cdv A outer s H E) [] (start N vs) H s1 := inv_start S hr.hd e0 hl r x
  refine wpAny_mono (ht [] s1 (start N vs) H _ I hq) (fun fl s' hs => ?_) fun e s' hs => hs
  have fin : ∀ {σ' : St} {H' : Hp} {v : V} {u : Value}, Inv (cxOf CX P w K mg base N qual scope f cdv A outer s H E) [] σ' H' s' → RelV v u → Q v H' → CE outer P w H s Q u s' :=
    fun {σ' H' v u} J rv q => ⟨v, H', J.os, J.bare, J.base, J.hok, rv, q⟩
  cases fl with
  | ret u =>
    obtain ⟨v, σ', H', J, rv, q⟩ := hs
    exact fin J rv q
  | next =>
    obtain ⟨σ', H', J, q⟩ := hs
    exact fin (v := V.non) (u := Value.none) J rfl q
  | brk =>
    obtain ⟨_, _, _, q⟩ := hs
    exact False.elim q
  | cont =>
    obtain ⟨_, _, _, q⟩ := hs
    exact False.elim q
end L2
namespace L2
open PySem PySem.Spec PyProof.Rows
section
variable {X : Cx} {x : Str} {p pos : Pos} {e : Expr} {es : List Expr} {t : TA} {id T : String} {r : List V → Hp → VK → Prop}
def tCB (r : List V → Hp → VK → Prop) (t : TA) : TE := fun σ H Q => t σ H fun vs H1 => r vs H1 Q
theorem pe_callB (hc : CallR X (.builtin id) r) (hg : Gl X x) (hm : X.mg x = none) (hv : bootBuiltins x = some (.builtin id)) (ha : PA X (e :: es) t) (hn : x ≠ "__name__" := by decide) (hdb : (x == ("__debug__" : Str)) = false := by decide)
    (he : starEach (e :: es) X.env = (false, eval e X.env) :: starEach es X.env := by rfl) (hpl : (backTo pos (starEach es X.env)).any (·.1) = false := by rfl) : PE X (.Call (.Name x p) (e :: es) [] pos) (tCB r t) := by
  intro pins s σ H Q I h
  refine wpAny_Call_Name_kw (ld_blt I hg hm hv ?_ hn hdb)
  exact PyProof.Rows.callWith_builtin1 (thn (ha pos pins s σ H _ I h) fun us s1 ⟨vs, H1, I1, r1, q1⟩ => hc pins s1 σ H1 vs us Q I1 r1 q1) he hpl
theorem pe_callTy (hc : CallR X (.type T) r) (hg : Gl X x) (hm : X.mg x = none) (hv : bootBuiltins x = some (.type T)) (ha : PA X (e :: es) t) (hn : x ≠ "__name__" := by decide) (hdb : (x == ("__debug__" : Str)) = false := by decide)
    (he : starEach (e :: es) X.env = (false, eval e X.env) :: starEach es X.env := by rfl) (hpl : (backTo pos (starEach es X.env)).any (·.1) = false := by rfl) : PE X (.Call (.Name x p) (e :: es) [] pos) (tCB r t) := by
  intro pins s σ H Q I h
  refine wpAny_Call_Name_kw (ld_blt I hg hm hv ?_ hn hdb)
  exact PyProof.Rows.callWith_type1 (thn (ha pos pins s σ H _ I h) fun us s1 ⟨vs, H1, I1, r1, q1⟩ => hc pins s1 σ H1 vs us Q I1 r1 q1) he hpl
end
end L2
namespace HT
open PySem PyProof.Rows
section
variable {prog : Program} {w : World} {A : Around} {E : Value → Shared → Prop} {s : Shared}
def sIx (n d : Nat) : Option Int → Nat
  | none => d
  | some v => if v < 0 then (v + (n : Int)).toNat else min v.toNat n
theorem sIx_le (n d : Nat) (hd : d ≤ n) (o : Option Int) : sIx n d o ≤ n := by
  cases o with
  | none => exact hd
  | some v =>
    show (if v < 0 then (v + (n : Int)).toNat else min v.toNat n) ≤ n
    by_cases hv : v < 0
    · rw [if_pos hv]; omega
    · rw [if_neg hv]; exact Nat.min_le_right _ _
theorem clip_eq (v : Int) (n d : Nat) : (if v < 0 then max (v + (n : Int)) 0 else min v (n : Int)) = ((sIx n d (some v) : Nat) : Int) := by
  show (if v < 0 then max (v + (n : Int)) 0 else min v (n : Int)) = (((if v < 0 then (v + (n : Int)).toNat else min v.toNat n) : Nat) : Int)
  by_cases hv : v < 0
  · simp only [if_pos hv]; omega
  · simp only [if_neg hv]; omega
theorem adjust_gen (lo hi : Option Int) (n : Nat) : Builtin.Slice.sliceAdjust lo hi 1 (n : Int) = (((sIx n 0 lo : Nat) : Int), ((sIx n n hi : Nat) : Int)) := by
  have h1 : ¬ ((1 : Int) < 0) := by omega
  unfold Builtin.Slice.sliceAdjust
  simp only [h1, if_false]
  refine Prod.ext ?_ ?_
  · cases lo with
    | none => rfl
    | some v => exact clip_eq v n 0
  · cases hi with
    | none => rfl
    | some v => exact clip_eq v n n
theorem places_gen (i j : Nat) : Builtin.Slice.slicePlaces (i : Int) (j : Int) 1 = j - i := by
  unfold Builtin.Slice.slicePlaces
  have h1 : (1 : Int) > 0 := by omega
  simp only [h1, if_true, Int.ediv_one]
  split <;> omega
theorem slicePart_ {v : Value} {o : Option Int} {Q : Option Int → Shared → Prop} (p : IsPart v o) (h : Q o s) : wpAny (model prog w) A (Builtin.Slice.slicePartIndex v) Q E s := by
  cases p with
  | none => exact slicePart_none h
  | int i t => exact slicePart_int h
theorem sliceApplied_gen {sl : Addr} {vl vu : Value} {lo hi : Option Int} {n : Nat} {Q : Int × Int × Nat → Shared → Prop} (hs : s.heap.IsSliceOf sl vl vu .none) (pl : IsPart vl lo) (pu : IsPart vu hi)
    (h : Q (((sIx n 0 lo : Nat) : Int), 1, sIx n n hi - sIx n 0 lo) s) : wpAny (model prog w) A (Builtin.Slice.sliceApplied (.ref sl) (pure (n : Int))) Q E s := by
  obtain ⟨os, hos, hcs, hds⟩ := id hs
  unfold Builtin.Slice.sliceApplied Builtin.Slice.sliceFields
  refine wpAny_bind (wpAny_bind (wpAny_field hos hds (x := vl) rfl (wpAny_bind (wpAny_field hos hds (x := vu) rfl (wpAny_bind (wpAny_field hos hds (x := .none) rfl (wpAny_pure ?_)))))))
  refine wpAny_bind (slicePart_none ?_)
  show wpAny _ _ (if ((1 : Int) == 0) = true then _ else _) _ _ s
  rw [if_neg (by decide)]
  refine wpAny_bind (slicePart_ pl (wpAny_bind (slicePart_ pu (wpAny_bind (wpAny_pure ?_)))))
  show wpAny _ _ (match Builtin.Slice.sliceAdjust lo hi 1 (n : Int) with | (lo, hi) => pure (lo, (1 : Int), Builtin.Slice.slicePlaces lo hi 1)) _ _ s
  rw [adjust_gen lo hi n]
  show wpAny _ _ (pure (((sIx n 0 lo : Nat) : Int), (1 : Int), Builtin.Slice.slicePlaces ((sIx n 0 lo : Nat) : Int) ((sIx n n hi : Nat) : Int) 1)) _ _ s
  rw [places_gen]
  exact wpAny_pure h
theorem pick_gen (xs : Array Value) (i k : Nat) : ((List.range k).filterMap fun (m : Nat) => xs[((i : Int) + (m : Int) * 1).toNat]?).toArray = ((xs.toList.drop i).take k).toArray := by
  have e : (fun (m : Nat) => xs[((i : Int) + (m : Int) * 1).toNat]?) = fun m => xs[i + m]? := by
    funext m
    have : ((i : Int) + (m : Int) * 1).toNat = i + m := by omega
    rw [this]
  rw [e]
  have := pick_run xs i k
  rw [List.filterMap_map] at this
  have e2 : ((fun x => xs[x]?) ∘ fun x => i + x) = fun m => xs[i + m]? := rfl
  rw [e2] at this
  rw [this]
theorem getItem_tuple_cut {t sl : Addr} {items : Array Value} {vl vu : Value} {lo hi : Option Int} {Q : Value → Shared → Prop} (ht : IsTup s.heap t items) (hs : s.heap.IsSliceOf sl vl vu .none) (pl : IsPart vl lo) (pu : IsPart vu hi)
    (hw : ¬ (sIx items.size 0 lo = 0 ∧ sIx items.size items.size hi = items.size))
    (h : Q (.ref s.heap.objs.size) { s with heap := s.heap.push { cls := .type "tuple", data := .seq ((items.toList.drop (sIx items.size 0 lo)).take (sIx items.size items.size hi - sIx items.size 0 lo)).toArray } })
    (hsz : items.size ≤ sizeLine) : wpAny (model prog w) A (getItem (.ref t) (.ref sl)) Q E s := by
  have htake : sizeOk (.seq ((items.toList.drop (sIx items.size 0 lo)).take (sIx items.size items.size hi - sIx items.size 0 lo)).toArray) := by
    show ((items.toList.drop (sIx items.size 0 lo)).take (sIx items.size items.size hi - sIx items.size 0 lo)).toArray.size ≤ sizeLine
    rw [List.size_toArray, List.length_take, List.length_drop, Array.length_toList]
    omega
  have hj : sIx items.size items.size hi ≤ items.size := sIx_le _ _ (Nat.le_refl _) hi
  obtain ⟨os, hos, hcs, hds⟩ := id hs
  have hTs : s.TypeIs (.ref sl) "slice" := ⟨os, hos, hcs⟩
  unfold getItem
  try with_reducible refine wpAny_holding ?_
  first | refine wpAny_bind (wpAny_pure ?_) | skip
  refine wpAny_bind (wpAny_sequenceKey ht.typeIs (by decide) ?_)
  refine wpAny_bind (wpAny_callSpecial?_slot (name := Str.ofString "__getitem__") ht.typeIs PyProof.Rows.slot_tuple_getitem
    (wpAny_call_entry PyProof.Rows.slot_tuple_getitem ht.typeIs entry_tuple_getitem ?_ (args_tuple_getitem _ _)))
  show wpAny _ _ (Builtin.Tuple.tupleItemsOf (.ref t) >>= _) _ _ s
  refine wpAny_bind (tupleItemsOf_ ht ?_)
  refine wpAny_bind (wpAny_typeOf hTs ?_)
  rw [if_pos (by decide)]
  refine wpAny_bind (sliceApplied_gen hs pl pu ?_)
  have hno : ¬ ((((sIx items.size 0 lo : Nat) : Int) == 0 && (1 : Int) == 1 && (sIx items.size items.size hi - sIx items.size 0 lo) == items.size) = true) := by
    intro q
    rw [Bool.and_eq_true, Bool.and_eq_true] at q
    have q1 : ((sIx items.size 0 lo : Nat) : Int) = 0 := eq_of_beq q.1.1
    have q2 : sIx items.size items.size hi - sIx items.size 0 lo = items.size := eq_of_beq q.2
    exact hw ⟨by omega, by omega⟩
  show wpAny _ _ (if (((sIx items.size 0 lo : Nat) : Int) == 0 && (1 : Int) == 1 && (sIx items.size items.size hi - sIx items.size 0 lo) == items.size) = true then _ else _) _ _ s
  rw [if_neg hno, pick_gen]
  first
    | exact wpAny_bind (m := Builtin.Tuple.tupleExact _) (wpAny_newObj_type (wpAny_pure ⟨_, rfl, wpAny_pure h⟩) htake)
    | exact wpAny_bind (m := Builtin.Tuple.tupleExact _) (wpAny_newObj_type (wpAny_bind (wpAny_pure (wpAny_pure ⟨_, rfl, wpAny_pure h⟩))) htake)
    | exact wpAny_bind (wpAny_bind (m := Builtin.Tuple.tupleExact _) (wpAny_newObj_type (wpAny_pure (wpAny_pure ⟨_, rfl, wpAny_pure h⟩)) htake))
    | exact wpAny_bind (wpAny_bind (m := Builtin.Tuple.tupleExact _) (wpAny_newObj_type (wpAny_pure ⟨_, rfl, wpAny_pure h⟩) htake))
end
end HT
namespace L2
open PySem PySem.Spec PyProof.Rows
abbrev TO := St → Hp → (Option Int → Hp → Prop) → Prop
def PO (X : Cx) (e : Option Expr) (t : TO) : Prop :=
  ∀ (pins : List (Addr × Obj)) (s : Shared) (σ : St) (H : Hp) (Q : Option Int → Hp → Prop), Inv X pins σ H s → t σ H Q →
    wpAny (model X.prog X.w) X.A (evalPart e X.env) (fun u s' => ∃ o H', Inv X pins σ H' s' ∧ IsPart u o ∧ Q o H') X.xe s
def tNoPart : TO := fun _ H Q => Q none H
def tPart (t : TE) : TO := fun σ H Q => t σ H fun x H1 => ∃ i, x = .int i ∧ Q (some i) H1
section
variable {X : Cx} {e : Expr} {te : TE} {lo hi : Option Expr} {tl th : TO} {pos p2 : Pos}
theorem po_none : PO X none tNoPart := by
  intro pins s σ H Q I h
  rw [evalPart_none]
  exact wpAny_pure ⟨none, H, I, .none, h⟩
theorem po_some (h : PE X e te) : PO X (some e) (tPart te) := by
  intro pins s σ H Q I hw
  rw [evalPart_some]
  refine thn (h pins s σ H _ I hw) fun u s1 ⟨x, H1, I1, r1, q1⟩ => ?_
  obtain ⟨i, rfl, q⟩ := q1
  obtain ⟨t, rfl⟩ := r1
  exact ⟨some i, H1, I1, .int i t, q⟩
def SlR (X : Cx) (r : V → Option Int → Option Int → Hp → VK → Prop) : Prop :=
  ∀ (pins : List (Addr × Obj)) (s : Shared) (σ : St) (H : Hp) (x : V) (v vl vu : Value) (lo hi : Option Int) (sl : Addr) (Q : VK), Inv X pins σ H s → RelV x v → s.heap.IsSliceOf sl vl vu .none → IsPart vl lo → IsPart vu hi → r x lo hi H Q →
    ∃ T id, typeLookup (.type T) "__getitem__" = pure (some (.builtin id)) ∧ s.TypeIs v T ∧ wpAny (model X.prog X.w) X.A (getItem v (.ref sl)) (EP X pins σ Q) X.xe s
def tSl (r : V → Option Int → Option Int → Hp → VK → Prop) (te : TE) (tl th : TO) : TE := fun σ H Q => te σ H fun x H1 => tl σ H1 fun l H2 => th σ H2 fun u H3 => r x l u H3 Q
theorem pe_slice {r : V → Option Int → Option Int → Hp → VK → Prop} (hr : SlR X r) (he : PE X e te) (hl : PO X lo tl) (hu : PO X hi th) : PE X (.Subscript e (.Slice lo hi none p2) pos) (tSl r te tl th) := by
  intro pins s σ H Q I h
  refine Subscript_ (thn (he pins s σ H _ I h) fun v s1 ⟨x, H1, I1, r1, q1⟩ => ?_)
  refine wpAny_Slice (thn (hl pins s1 σ H1 _ I1 q1) fun vl s2 ⟨l, H2, I2, pl, q2⟩ => thn (hu pins s2 σ H2 _ I2 q2) fun vu s3 ⟨u, H3, I3, pu, q3⟩ => ?_)
  rw [evalPart_none]
  refine wpAny_pure ?_
  have I4 : Inv X pins σ H3 { s3 with heap := s3.heap.push { cls := .type "slice", data := .fields #[vl, vu, .none] } } := I3.kept (t' := s3.toks) fun b ob q => Heap.get?_push_of_some _ q
  obtain ⟨T, id, hT, ht, hg⟩ := hr pins { s3 with heap := s3.heap.push { cls := .type "slice", data := .fields #[vl, vu, .none] } } σ H3 x v vl vu l u s3.heap.objs.size Q I4 r1 (Heap.IsSliceOf.new ..) pl pu q3
  show wpAny (model X.prog X.w) X.A (subscriptTail e (.Slice lo hi none p2) v (.ref s3.heap.objs.size)) (EP X pins σ Q) X.xe { s3 with heap := s3.heap.push { cls := .type "slice", data := .fields #[vl, vu, .none] } }
  exact tail_any (ops := [.ref s3.heap.objs.size, v]) ht hT hg (by with_unfolding_all rfl)
def cutV (xs : List V) (lo hi : Option Int) : List V := (xs.drop (HT.sIx xs.length 0 lo)).take (HT.sIx xs.length xs.length hi - HT.sIx xs.length 0 lo)
theorem cutV_length (xs : List V) (lo hi : Option Int) : (cutV xs lo hi).length ≤ xs.length := by
  unfold cutV
  rw [List.length_take, List.length_drop]
  omega
def rSlT (K : PySem.W.Frag) : V → Option Int → Option Int → Hp → VK → Prop := fun x lo hi H Q => ∃ a xs, x = .ref a ∧ SqT K H a xs ∧
  ¬ (HT.sIx xs.length 0 lo = 0 ∧ HT.sIx xs.length xs.length hi = xs.length) ∧ ∀ p, H p = none → Q (.ref p) (upd H p (.tup (cutV xs lo hi)))
theorem sl_tup : SlR X (rSlT X.K) := by
  intro pins s σ H x v vl vu lo hi sl Q I rx hs pl pu h
  obtain ⟨a, xs, rfl, hx, hw, q⟩ := h
  cases rx
  obtain ⟨its, r, ht, hz⟩ := I.tuple hx
  have hlen : its.toArray.size = xs.length := by rw [List.size_toArray]; exact r.length.symm
  refine ⟨"tuple", _, PyProof.Rows.slot_tuple_getitem.lookup, ht.typeIs, ?_⟩
  refine HT.getItem_tuple_cut ht hs pl pu (by rw [hlen]; exact hw) ?_ (by rw [hlen]; exact hz)
  rw [hlen]
  refine ⟨.ref s.heap.objs.size, _, I.laid (t' := s.toks) (o := .tup (cutV xs lo hi)) (fun b ob q => Heap.get?_push_of_some _ q) (Nat.le_refl _) ?_, rfl, q _ (I.hok.fresh (Nat.le_refl _))⟩
  exact ⟨Nat.le_trans (cutV_length xs lo hi) hz, _, (r.drop (HT.sIx xs.length 0 lo)).take (HT.sIx xs.length xs.length hi - HT.sIx xs.length 0 lo), IsTup.new _ _⟩
end
end L2
namespace L2
open PySem PySem.Spec PyProof.Rows
def ixN (n : Nat) (i : Int) : Option Nat := if 0 ≤ i then (if i < n then some i.toNat else none) else if -(n : Int) ≤ i then some (i + n).toNat else none
def atI {α : Type} (xs : List α) (i : Int) : Option α := (ixN xs.length i).bind fun j => xs[j]?
theorem ixN_seq {n : Nat} {i : Int} {j : Nat} (h : ixN n i = some j) : seqIndex? i n = some j ∧ j < n ∧ -(n : Int) ≤ i ∧ i < n := by
  unfold ixN at h
  by_cases h0 : 0 ≤ i
  · rw [if_pos h0] at h
    by_cases h1 : i < n
    · rw [if_pos h1] at h
      have e : i.toNat = j := Option.some.inj h
      exact ⟨by rw [seqIndex_of h0 h1, e], by omega, by omega, h1⟩
    · rw [if_neg h1] at h; cases h
  · rw [if_neg h0] at h
    by_cases h1 : -(n : Int) ≤ i
    · rw [if_pos h1] at h
      have e : (i + n).toNat = j := Option.some.inj h
      exact ⟨by rw [seqIndex_neg (by omega) h1, e], by omega, h1, by omega⟩
    · rw [if_neg h1] at h; cases h
theorem atI_get {α : Type} {xs : List α} {i : Int} {v : α} (h : atI xs i = some v) : ∃ j, seqIndex? i xs.length = some j ∧ xs[j]? = some v ∧ j < xs.length ∧ -(xs.length : Int) ≤ i ∧ i < xs.length := by
  unfold atI at h
  cases e : ixN xs.length i with
  | none => rw [e] at h; cases h
  | some j =>
    rw [e] at h
    obtain ⟨h1, h2, h3, h4⟩ := ixN_seq e
    exact ⟨j, h1, h, h2, h3, h4⟩
theorem atI_nat {α : Type} {xs : List α} {j : Nat} {v : α} (h : xs[j]? = some v) : atI xs (j : Int) = some v := by
  have hj : j < xs.length := (List.getElem?_eq_some_iff.mp h).1
  have e : ixN xs.length (j : Int) = some j := by
    unfold ixN
    rw [if_pos (by omega), if_pos (by omega)]; simp
  unfold atI; rw [e]; exact h
def PlainIx (b : Expr) : Prop := ∀ o i, subscripted b false o i = operate [o, i] (getItem o i)
def IxR (X : Cx) (r : R2) : Prop :=
  ∀ (value slice : Expr) (pins : List (Addr × Obj)) (s : Shared) (σ : St) (H : Hp) (x y : V) (v u : Value) (Q : VK), Inv X pins σ H s → RelV x v → RelV y u → r x y H Q →
    subscripted slice false v u = operate [v, u] (getItem v u) → wpAny (model X.prog X.w) X.A (subscriptTail value slice v u) (EP X pins σ Q) X.xe s
def MtR (X : Cx) (id : String) (r : V → List V → Hp → VK → Prop) : Prop :=
  ∀ (pins : List (Addr × Obj)) (s : Shared) (σ : St) (H : Hp) (x : V) (xs : List V) (v : Value) (us : List Value) (Q : VK), Inv X pins σ H s → RelV x v → Vals xs us → r x xs H Q →
    wpAny (model X.prog X.w) X.A (call (.builtin id) (v :: us)) (EP X pins σ Q) X.xe s
section
variable {X : Cx} {a b : Expr} {ta tb : TE} {pos : Pos}
theorem pe_ix {r : R2} (hr : IxR X r) (ha : PE X a ta) (hb : PE X b tb) (hs : PlainIx b) : PE X (.Subscript a b pos) (tOp r ta tb) := by
  intro pins s σ H Q I h
  exact Subscript_ (binT ha hb I h fun v u s2 x y H2 I2 rx ry q => hr a b pins s2 σ H2 x y v u Q I2 rx ry q (hs _ _))
def rIxL (K : PySem.W.Frag) : R2 := fun x y H Q => ∃ p xs i v, x = .ref p ∧ y = .int i ∧ SqL K H p xs ∧ atI xs i = some v ∧ Q v H
def rIxT (K : PySem.W.Frag) : R2 := fun x y H Q => ∃ p xs i v, x = .ref p ∧ y = .int i ∧ SqT K H p xs ∧ atI xs i = some v ∧ Q v H
def rIxS : R2 := fun x y H Q => ∃ z i c, x = .str z ∧ y = .int i ∧ z.length ≤ sizeLine ∧ atI z.cps.toList i = some c ∧ Q (.str ⟨#[c]⟩) H
theorem ix_list : IxR X (rIxL X.K) := by
  intro value slice pins s σ H x y v u Q I rx ry h hs
  obtain ⟨p, xs, i, z, rfl, rfl, hq, he, q⟩ := h
  cases rx
  obtain ⟨t, rfl⟩ := ry
  obtain ⟨its, r, pl, hz⟩ := I.list hq
  obtain ⟨j, h1, h2, h3, h4, h5⟩ := atI_get he
  obtain ⟨w, ew, rw'⟩ := r.get h2
  have hl := r.length
  have hn := line63
  have fin : EP X pins σ Q w s := ⟨z, H, I, rw', q⟩
  by_cases h0 : 0 ≤ i
  · have hj : i.toNat = j := by
      rw [seqIndex_of h0 h5] at h1
      exact Option.some.inj h1
    exact item_listR pl.isList h0 (by omega) (by rw [hj]; simpa using ew) fin hs
  · have hj : (i + (its.toArray.size : Int)).toNat = j := by
      rw [seqIndex_neg (by omega) h4] at h1
      rw [List.size_toArray, ← hl]
      exact Option.some.inj h1
    exact subscriptTail_builtinR (x := w) pl.isList.typeIs slot_list_getitem.lookup
      (wpAny_getItem_list_neg (Q := fun r s' => r = w ∧ EP X pins σ Q r s') pl.isList (by omega) (by rw [List.size_toArray] <;> omega) (by omega) (by rw [hj]; simpa using ew) ⟨rfl, fin⟩) hs
theorem ix_tup : IxR X (rIxT X.K) := by
  intro value slice pins s σ H x y v u Q I rx ry h hs
  obtain ⟨p, xs, i, z, rfl, rfl, hq, he, q⟩ := h
  cases rx
  obtain ⟨t, rfl⟩ := ry
  obtain ⟨its, r, pl, hz⟩ := I.tuple hq
  obtain ⟨j, h1, h2, h3, h4, h5⟩ := atI_get he
  obtain ⟨w, ew, rw'⟩ := r.get h2
  have hl := r.length
  have hn := line63
  have fin : EP X pins σ Q w s := ⟨z, H, I, rw', q⟩
  exact subscriptTail_builtinR (x := w) pl.typeIs slot_tuple_getitem.lookup
    (getItem_tuple (j := j) (Q := fun r s' => r = w ∧ EP X pins σ Q r s') pl (by omega) (by omega) (by rw [List.size_toArray, ← hl]; exact h1) (by simpa using ew) ⟨rfl, fin⟩) hs
theorem ix_str : IxR X rIxS := by
  intro value slice pins s σ H x y v u Q I rx ry h hs
  obtain ⟨z, i, c, rfl, rfl, hz, he, q⟩ := h
  obtain ⟨t, rfl⟩ := rx
  obtain ⟨t', rfl⟩ := ry
  obtain ⟨j, h1, h2, h3, h4, h5⟩ := atI_get he
  have hl : z.cps.toList.length = z.length := by simp [Str.length]
  rw [hl] at h1 h4 h5
  have hn := line63
  exact tail_any (typeIs_str s z t) slot_str_getitem.lookup (getItem_str (c := c) (by
    have e1 : decide (i < -(2 ^ 63 : Int)) = false := decide_eq_false (by omega)
    have e2 : decide (i ≥ 2 ^ 63) = false := decide_eq_false (by omega)
    rw [e1, e2, Bool.or_false]) (by rw [h1]; simpa using h2) ⟨.str ⟨#[c]⟩, H, I.tok _, ⟨_, rfl⟩, q⟩) hs
theorem mapSeq_set (its : List Value) (n j : Nat) (u : Value) : Obj.mapSeq (·.setIfInBounds j u) { cls := .type "list", data := .seq its.toArray n } = { cls := .type "list", data := .seq (its.set j u).toArray n } := by
  simp [Obj.mapSeq]
theorem Inv.lst {pins : List (Addr × Obj)} {σ : St} {H : Hp} {s : Shared} {p : Addr} {xs : List V} (I : Inv X pins σ H s) (h : H p = some (.lst xs)) :
    ∃ (its : List Value) (n : Nat), Vals xs its ∧ s.heap.get? p = some { cls := .type "list", data := .seq its.toArray n } ∧ xs.length ≤ sizeLine := by
  obtain ⟨z, its, n, r, e⟩ := I.hok p _ h
  exact ⟨its, n, r, e, z⟩
theorem Inv.lstUpd {pins : List (Addr × Obj)} {σ : St} {H : Hp} {s : Shared} {p : Addr} {xs ys : List V} {its its' : List Value} {n n' : Nat} {f : Obj → Obj} (I : Inv X pins σ H s) (h : H p = some (.lst xs))
    (ho : s.heap.get? p = some { cls := .type "list", data := .seq its.toArray n }) (hf : f { cls := .type "list", data := .seq its.toArray n } = { cls := .type "list", data := .seq its'.toArray n' }) (r : Vals ys its') (hz : ys.length ≤ sizeLine) (t : Nat) :
    Inv X pins σ (upd H p (.lst ys)) { s with heap := s.heap.update p f, toks := t } := by
  have e : (s.heap.update p f).get? p = some { cls := .type "list", data := .seq its'.toArray n' } := by
    rw [Heap.get?_update_self f ho (by rw [hf] <;> rfl), hf]
  refine I.write (x := p) (e := p) (by rw [h]; trivial) (.inl rfl) (fun b u hb q => (Heap.get?_update_other _ _ (Ne.symm hb)).trans q) ⟨_, e⟩ ?_
  exact ⟨hz, its', n', r, e⟩
def rSetL : V → V → V → Hp → (Hp → Prop) → Prop := fun o i v H Q => ∃ p xs k j, o = .ref p ∧ i = .int k ∧ H p = some (.lst xs) ∧ ixN xs.length k = some j ∧ Q (upd H p (.lst (xs.set j v)))
theorem set_list : PSet X rSetL := by
  intro pins s σ H o i v ov iv u Q I ro ri rv h
  obtain ⟨p, xs, k, j, rfl, rfl, hp, hj, q⟩ := h
  cases ro
  obtain ⟨t, rfl⟩ := ri
  obtain ⟨its, n, r, ho, hz⟩ := I.lst hp
  obtain ⟨h1, h2, h3, h4⟩ := ixN_seq hj
  have hl := r.length
  have hn := line63
  have I' : Inv X pins σ (upd H p (.lst (xs.set j v))) { s with heap := s.heap.update p (Obj.mapSeq (·.setIfInBounds j u)) } :=
    I.lstUpd hp ho (mapSeq_set its n j u) (r.set rv j) (by rw [List.length_set]; exact hz) s.toks
  by_cases h0 : 0 ≤ k
  · have hk : k.toNat = j := by
      rw [seqIndex_of h0 h4] at h1
      exact Option.some.inj h1
    exact PySem.W.ki_setAt ho h0 (by omega) (by rw [List.size_toArray, ← hl]; exact h4) (by rw [hk]; exact ⟨_, I', q⟩)
  · have hk : (k + (its.toArray.size : Int)).toNat = j := by
      rw [seqIndex_neg (by omega) h3] at h1
      rw [List.size_toArray, ← hl]
      exact Option.some.inj h1
    exact PySem.W.ki_setBack ho (by omega) (by rw [List.size_toArray, ← hl]; exact h3) (by omega) (by rw [hk]; exact ⟨_, I', q⟩)
theorem slice_bounds (lo hi : Option Int) (n : Nat) : (sliceBounds lo hi none n).1 = ((HT.sIx n 0 lo : Nat) : Int) ∧ (sliceBounds lo hi none n).2.1 = ((HT.sIx n n hi : Nat) : Int) ∧ (sliceBounds lo hi none n).2.2 = 1 := by
  refine ⟨?_, ?_, rfl⟩
  · cases lo with
    | none => simp [sliceBounds, HT.sIx]
    | some i =>
      simp only [sliceBounds, HT.sIx, Option.getD_none, show (1 : Int) > 0 by decide, if_true]
      by_cases h : i < 0
      · simp only [h, if_true] <;> omega
      · simp only [h, if_false] <;> omega
  · cases hi with
    | none => simp [sliceBounds, HT.sIx]
    | some i =>
      simp only [sliceBounds, HT.sIx, Option.getD_none, show (1 : Int) > 0 by decide, if_true]
      by_cases h : i < 0
      · simp only [h, if_true] <;> omega
      · simp only [h, if_false] <;> omega
theorem slicePick_cut (its : List Value) (lo hi : Option Int) : slicePick its.toArray lo hi none = ((its.drop (HT.sIx its.length 0 lo)).take (HT.sIx its.length its.length hi - HT.sIx its.length 0 lo)).toArray := by
  obtain ⟨h1, h2, h3⟩ := slice_bounds lo hi its.toArray.size
  unfold slicePick
  rw [h1, h2, h3]
  simp only [sliceRange_one, pick_run, List.size_toArray] <;> rfl
def rSlL (K : PySem.W.Frag) : V → Option Int → Option Int → Hp → VK → Prop := fun x lo hi H Q => ∃ a xs, x = .ref a ∧ SqL K H a xs ∧ ∀ p, H p = none → Q (.ref p) (upd H p (.lst (cutV xs lo hi)))
theorem sl_list : SlR X (rSlL X.K) := by
  intro pins s σ H x v vl vu lo hi sl Q I rx hs pl pu h
  obtain ⟨a, xs, rfl, hx, q⟩ := h
  cases rx
  obtain ⟨its, r, ht, hz⟩ := I.list hx
  have hlen := r.length
  refine ⟨"list", _, slot_list_getitem.lookup, ht.isList.typeIs, ?_⟩
  refine wpAny_getItem_list_slice ht.isList hs pl pu .none (by simp) ?_ (by rw [List.size_toArray] <;> omega)
  rw [slicePick_cut, ← hlen]
  refine ⟨.ref s.heap.objs.size, _, I.laid (t' := s.toks) (o := .lst (cutV xs lo hi)) (fun b ob q => Heap.get?_push_of_some _ q) (Nat.le_refl _) ?_, rfl, q _ (I.hok.fresh (Nat.le_refl _))⟩
  exact ⟨Nat.le_trans (cutV_length xs lo hi) hz, _, 0, (r.drop (HT.sIx xs.length 0 lo)).take (HT.sIx xs.length xs.length hi - HT.sIx xs.length 0 lo), Heap.get?_push_size _ rfl⟩
def flatV : V → Bool
  | .non => true
  | .bl _ => true
  | .int _ => true
  | .str _ => true
  | _ => false
def eqV : V → V → Bool
  | .non, .non => true
  | .bl a, .bl b => a == b
  | .bl a, .int b => (if a then 1 else 0) == b
  | .int a, .bl b => a == (if b then 1 else 0)
  | .int a, .int b => a == b
  | .str a, .str b => a == b
  | _, _ => false
theorem eqAt_V {A : Around} {s : Shared} {y x : V} {u v : Value} (ry : RelV y u) (rx : RelV x v) (fy : flatV y = true) (fx : flatV x = true) : SeqAt.EqAt A s u v (eqV y x) := by
  cases y with
  | non =>
    cases ry
    cases x with
    | non => cases rx; exact SeqAt.EqAt.same _
    | bl b => cases rx; exact SeqAt.EqAt.none_bool b
    | int b => obtain ⟨t, rfl⟩ := rx; exact SeqAt.EqAt.none_int b t
    | str b => obtain ⟨t, rfl⟩ := rx; exact SeqAt.EqAt.none_str b t
    | _ => exact absurd (show false = true from fx) Bool.false_ne_true
  | bl a =>
    cases ry
    cases x with
    | non => cases rx; exact SeqAt.EqAt.bool_none a
    | bl b => cases rx; exact SeqAt.EqAt.bool_bool a b
    | int b => obtain ⟨t, rfl⟩ := rx; exact SeqAt.EqAt.bool_int a b t
    | str b => obtain ⟨t, rfl⟩ := rx; exact SeqAt.EqAt.bool_str a b t
    | _ => exact absurd (show false = true from fx) Bool.false_ne_true
  | int a =>
    obtain ⟨t', rfl⟩ := ry
    cases x with
    | non => cases rx; exact SeqAt.EqAt.int_none a t'
    | bl b => cases rx; exact SeqAt.EqAt.int_bool a t' b
    | int b => obtain ⟨t, rfl⟩ := rx; exact SeqAt.EqAt.int_int a t' b t
    | str b => obtain ⟨t, rfl⟩ := rx; exact SeqAt.EqAt.int_str a t' b t
    | _ => exact absurd (show false = true from fx) Bool.false_ne_true
  | str a =>
    obtain ⟨t', rfl⟩ := ry
    cases x with
    | non => cases rx; exact SeqAt.EqAt.str_none a t'
    | bl b => cases rx; exact SeqAt.EqAt.str_bool a t' b
    | int b => obtain ⟨t, rfl⟩ := rx; exact SeqAt.EqAt.str_int a t' b t
    | str b => obtain ⟨t, rfl⟩ := rx; exact SeqAt.EqAt.str_str a t' b t
    | _ => exact absurd (show false = true from fx) Bool.false_ne_true
  | _ => exact absurd (show false = true from fy) Bool.false_ne_true
def eqU (x : V) (u : Value) : Bool := match u with
  | .none => eqV .non x
  | .bool b => eqV (.bl b) x
  | .int i _ => eqV (.int i) x
  | .str z _ => eqV (.str z) x
  | _ => false
theorem eqU_of {x y : V} {u : Value} (r : RelV y u) (f : flatV y = true) : eqU x u = eqV y x := by
  cases y with
  | non => cases r; rfl
  | bl b => cases r; rfl
  | int i => obtain ⟨t, rfl⟩ := r; rfl
  | str z => obtain ⟨t, rfl⟩ := r; rfl
  | _ => exact absurd (show false = true from f) Bool.false_ne_true
theorem any_eqU {x : V} : ∀ {xs : List V} {us : List Value}, Vals xs us → xs.all flatV = true → us.any (eqU x) = xs.any fun y => eqV y x
  | _, _, .nil, _ => rfl
  | y :: xs, u :: us, .cons r t, f => by
    rw [List.all_cons, Bool.and_eq_true] at f
    rw [List.any_cons, List.any_cons, eqU_of r f.1, any_eqU t f.2]
theorem mem_eqAt {A : Around} {s : Shared} {x : V} {v : Value} (rx : RelV x v) (fx : flatV x = true) : ∀ {xs : List V} {us : List Value}, Vals xs us → xs.all flatV = true → ∀ u ∈ us, SeqAt.EqAt A s u v (eqU x u)
  | _, _, .nil, _ => fun u hu => by cases hu
  | y :: xs, u :: us, .cons r t, f => fun u' hu => by
    rw [List.all_cons, Bool.and_eq_true] at f
    rcases List.mem_cons.mp hu with rfl | hu
    · rw [eqU_of r f.1]; exact eqAt_V r rx f.1 fx
    · exact mem_eqAt rx fx t f.2 u' hu
def inV (x : V) (xs : List V) : Bool := xs.any fun y => eqV y x
def rIn (K : PySem.W.Frag) (neg : Bool) : R2 := fun x y H Q => ∃ p xs, y = .ref p ∧ (SqL K H p xs ∨ SqT K H p xs) ∧ flatV x = true ∧ xs.all flatV = true ∧ Q (.bl (if neg then !inV x xs else inV x xs)) H
theorem op_in_seq : OpR X (compareOp .In) (rIn X.K false) := by
  intro pins s σ H x y v u Q I rx ry h
  obtain ⟨p, xs, rfl, hq, fx, fs, q⟩ := h
  cases ry
  rcases hq with hq | hq
  · obtain ⟨its, r, pl, hz⟩ := I.list hq
    refine SeqAt.in_listAt (eqU x) pl.isList (fun w hw => mem_eqAt rx fx r fs w (by simpa using hw)) ⟨.bl _, H, I, rfl, ?_⟩
    rw [show its.toArray.any (eqU x) = its.any (eqU x) by simp, any_eqU r fs]
    exact q
  · obtain ⟨its, r, pl, hz⟩ := I.tuple hq
    refine SeqAt.in_tupleAt (eqU x) pl (fun w hw => mem_eqAt rx fx r fs w (by simpa using hw)) ⟨.bl _, H, I, rfl, ?_⟩
    rw [show its.toArray.any (eqU x) = its.any (eqU x) by simp, any_eqU r fs]
    exact q
theorem op_notIn_seq : OpR X (compareOp .NotIn) (rIn X.K true) := by
  intro pins s σ H x y v u Q I rx ry h
  obtain ⟨p, xs, rfl, hq, fx, fs, q⟩ := h
  cases ry
  rcases hq with hq | hq
  · obtain ⟨its, r, pl, hz⟩ := I.list hq
    refine SeqAt.notIn_listAt (eqU x) pl.isList (fun w hw => mem_eqAt rx fx r fs w (by simpa using hw)) ⟨.bl _, H, I, rfl, ?_⟩
    rw [show its.toArray.any (eqU x) = its.any (eqU x) by simp, any_eqU r fs]
    exact q
  · obtain ⟨its, r, pl, hz⟩ := I.tuple hq
    refine SeqAt.notIn_tupleAt (eqU x) pl (fun w hw => mem_eqAt rx fx r fs w (by simpa using hw)) ⟨.bl _, H, I, rfl, ?_⟩
    rw [show its.toArray.any (eqU x) = its.any (eqU x) by simp, any_eqU r fs]
    exact q
theorem call_len_seq : CallR X (.builtin "len") (fun xs H Q => ∃ p ys, xs = [.ref p] ∧ (SqL X.K H p ys ∨ SqT X.K H p ys) ∧ Q (.int ys.length) H) := by
  intro pins s σ H xs us Q I r h
  obtain ⟨p, ys, rfl, hq, q⟩ := h
  obtain ⟨u, rfl, rx⟩ := vals1 r
  cases rx
  have hn := line63
  rcases hq with hq | hq
  · obtain ⟨its, r', pl, hz⟩ := I.list hq
    have hlen := r'.length
    exact Calls.call_len_list pl.isList (by simp only [List.size_toArray] <;> omega) ⟨.int ys.length, H, I.tok _, ⟨s.toks + 1, by rw [List.size_toArray, hlen]⟩, q⟩
  · obtain ⟨its, r', pl, hz⟩ := I.tuple hq
    have hlen := r'.length
    exact len_tuple pl (by simp only [List.size_toArray] <;> omega) ⟨.int ys.length, H, I.tok _, ⟨s.toks + 1, by rw [List.size_toArray, hlen]⟩, q⟩
theorem call_len_str : CallR X (.builtin "len") (fun xs H Q => ∃ z, xs = [.str z] ∧ z.length ≤ sizeLine ∧ Q (.int z.length) H) := by
  intro pins s σ H xs us Q I r h
  obtain ⟨z, rfl, hz, q⟩ := h
  obtain ⟨u, rfl, t, rfl⟩ := vals1 r
  have hn := line63
  exact len_str (by omega) ⟨.int z.length, H, I.tok _, ⟨_, rfl⟩, q⟩
theorem call_list_of : CallR X (.type "list") (fun xs H Q => ∃ p ys, xs = [.ref p] ∧ (SqL X.K H p ys ∨ SqT X.K H p ys) ∧ ∀ l, H l = none → Q (.ref l) (upd H l (.lst ys))) := by
  intro pins s σ H xs us Q I r h
  obtain ⟨p, ys, rfl, hq, q⟩ := h
  obtain ⟨u, rfl, rx⟩ := vals1 r
  cases rx
  have fin : ∀ (its : List Value), Vals ys its → ys.length ≤ sizeLine → ∀ (h' : Heap) (c' : Nat), (∀ b o', s.heap.get? b = some o' → h'.get? b = some o') →
      h'.get? s.heap.objs.size = some { cls := .type "list", dict := none, data := .seq its.toArray c', slots := #[] } → EP X pins σ Q (.ref s.heap.objs.size) { s with heap := h' } := fun its r' hz h' c' kp e =>
    ⟨.ref s.heap.objs.size, _, I.laid (t' := s.toks) kp (Nat.le_refl _) (show ObjOk X.prog X.w _ h' _ (.lst ys) from ⟨hz, its, c', r', e⟩), rfl, q _ (I.hok.fresh (Nat.le_refl _))⟩
  rcases hq with hq | hq
  · obtain ⟨its, r', pl, hz⟩ := I.list hq
    have hlen := r'.length
    obtain ⟨o, ho, hc, n, hd⟩ := pl.isList
    exact call_list_seq p (.inl rfl) ho hc hd (fun h' c' kp e => fin its r' hz h' c' kp e) (by simp only [List.size_toArray] <;> omega)
  · obtain ⟨its, r', pl, hz⟩ := I.tuple hq
    have hlen := r'.length
    obtain ⟨o, ho, hc, n, hd⟩ := pl
    exact call_list_seq p (.inr rfl) ho hc hd (fun h' c' kp e => fin its r' hz h' c' kp e) (by simp only [List.size_toArray] <;> omega)
def tyV (K : PySem.W.Frag) (T : String) (x : V) (H : Hp) : Prop := match x with
  | .str _ => T = "str"
  | .int _ => T = "int"
  | .ref p => (T = "list" ∧ ∃ xs, SqL K H p xs) ∨ (T = "tuple" ∧ ∃ o, K.lookup p = some o ∧ o.cls = .type "tuple" ∧ o.dict = none) ∨
      (T = "dict" ∧ ((∃ kvs, H p = some (.dK kvs)) ∨ ∃ kvs, H p = some (.dT kvs))) ∨ (T = "set" ∧ ∃ S n, H p = some (.set S n))
  | _ => False
theorem tyV_is {pins : List (Addr × Obj)} {σ : St} {H : Hp} {s : Shared} {T : String} {x : V} {v : Value} (I : Inv X pins σ H s) (r : RelV x v) (ty : tyV X.K T x H) :
    s.TypeIs v T ∧ ∀ a, v = .ref a → ∃ ob, s.heap.get? a = some ob ∧ ob.dict = none := by
  cases x with
  | str z =>
    obtain ⟨t, rfl⟩ := r
    cases (show T = "str" from ty)
    exact ⟨typeIs_str s z t, fun _ e => nomatch e⟩
  | int i =>
    obtain ⟨t, rfl⟩ := r
    cases (show T = "int" from ty)
    exact ⟨typeIs_int s i t, fun _ e => nomatch e⟩
  | ref p =>
    cases r
    rcases ty with ⟨rfl, xs, hq⟩ | ⟨rfl, o, hk, hc, hd⟩ | ⟨rfl, hk⟩ | ⟨rfl, S, n, hk⟩
    · obtain ⟨its, _, pl, _⟩ := I.list hq
      refine ⟨pl.isList.typeIs, fun a e => ?_⟩
      cases e
      obtain ⟨o, n, e, c, hd, _⟩ := pl
      exact ⟨o, e, hd⟩
    · refine ⟨⟨o, I.kIn p o hk, hc⟩, fun a e => ?_⟩
      cases e
      exact ⟨o, I.kIn _ o hk, hd⟩
    · have z : ∃ o, s.heap.get? p = some o ∧ o.ExactDict := by
        rcases hk with ⟨kvs, hk⟩ | ⟨kvs, hk⟩
        · obtain ⟨_, _, _, _, o, _, _, e, ex, _⟩ := I.hok p _ hk
          exact ⟨o, e, ex⟩
        · obtain ⟨_, _, _, _, o, _, _, e, ex, _⟩ := I.hok p _ hk
          exact ⟨o, e, ex⟩
      obtain ⟨o, e, ex⟩ := z
      refine ⟨⟨o, e, ex.1⟩, fun a e2 => ?_⟩
      cases e2
      exact ⟨o, e, ex.2.1⟩
    · obtain ⟨o, _, _, _, e, ex, _⟩ := I.hok p _ hk
      refine ⟨⟨o, e, ex.1⟩, fun a e2 => ?_⟩
      cases e2
      exact ⟨o, e, ex.2.1⟩
  | _ => exact False.elim ty
def tBM (K : PySem.W.Frag) (T : String) (r : V → List V → Hp → VK → Prop) (to : TE) (t : TA) : TE := fun σ H Q => to σ H fun x H1 => tyV K T x H1 ∧ t σ H1 fun xs H2 => r x xs H2 Q
variable {o e : Expr} {es : List Expr} {to : TE} {t : TA} {name : Str} {apos cpos : Pos} {T id : String} {r : V → List V → Hp → VK → Prop}
theorem pe_bm (pa : PlainAttrs T) (slot : Slot T name id) (hty : typeOf (.builtin id) = pure (.type "method_descriptor")) (hm : MtR X id r) (ho : PE X o to) (ha : PA X (e :: es) t)
    (hbase : attributeBase o name X.env (eval o X.env) = eval o X.env := by rfl)
    (hfew : ((backTo cpos (starEach (e :: es) X.env)).all (fun x => !x.1) && (backToKw cpos (keywordEach [] X.env)).all (fun x => x.1.isSome)
      && decide ((e :: es).length + ([] : List Keyword).length + (if ([] : List Keyword).isEmpty then 0 else 1) < 30)) = true := by rfl)
    (hline : (apos.endLine == cpos.line) = true := by rfl) (hs : starEach (e :: es) X.env = (false, eval e X.env) :: starEach es X.env := by rfl) (hplain : (backTo cpos (starEach es X.env)).any (·.1) = false := by rfl) :
    PE X (.Call (.Attribute o name apos) (e :: es) [] cpos) (tBM X.K T r to t) := by
  intro pins s σ H Q I h
  refine wpAny_Call_method_late hbase hfew hline rfl (thn (ho pins s σ H _ I h) fun v s1 ⟨x, H1, I1, r1, ty, q1⟩ => ?_)
  obtain ⟨h1, h2⟩ := tyV_is I1 r1 ty
  refine ⟨T, id, pa, slot, hty, h1, h2, ?_⟩
  have hA := ha cpos pins s1 σ H1 _ I1 q1
  rw [hs] at hA ⊢
  refine Calls.callWith_builtin (by show (false || (backTo cpos (starEach es X.env)).any (·.1)) = false; rw [hplain] <;> rfl) (Calls.evalArgs_plain ?_)
  exact thn hA fun us s2 ⟨vs, H2, I2, r2, q2⟩ => hm pins s2 σ H2 x vs v us Q I2 r1 r2 q2
end
end L2
namespace L2
open PySem PySem.Spec PyProof.Rows
def MtM (X : Cx) (id : String) (r : V → List V → Hp → VK → Prop) : Prop :=
  ∀ (pins : List (Addr × Obj)) (s : Shared) (σ : St) (H : Hp) (x : V) (xs : List V) (v : Value) (us : List Value) (Q : VK), Inv X pins σ H s → RelV x v → Vals xs us → r x xs H Q →
    wpAny (model X.prog X.w) X.A (call (.builtin id) (v :: us)) (EP X pins σ Q) X.xe s
theorem Vals.one : ∀ {x : V} {us : List Value}, Vals [x] us → ∃ u, us = [u] ∧ RelV x u
  | _, _, .cons r .nil => ⟨_, rfl, r⟩
theorem Vals.zero : ∀ {us : List Value}, Vals [] us → us = []
  | _, .nil => rfl
theorem Vals.dropLast {xs : List V} {us : List Value} (h : Vals xs us) : Vals xs.dropLast us.dropLast := by
  induction h with
  | nil => exact .nil
  | cons r t ih =>
    cases t with
    | nil => exact .nil
    | cons q t' => exact .cons r ih
theorem Vals.eraseIdx : ∀ {xs : List V} {us : List Value} (i : Nat), Vals xs us → Vals (xs.eraseIdx i) (us.eraseIdx i)
  | _, _, _, .nil => .nil
  | _, _, 0, .cons _ t => t
  | _, _, i + 1, .cons r t => .cons r (Vals.eraseIdx i t)
theorem Vals.reverse {xs : List V} {us : List Value} (h : Vals xs us) : Vals xs.reverse us.reverse := by
  induction h with
  | nil => exact .nil
  | cons r t ih => rw [List.reverse_cons, List.reverse_cons]; exact Vals.append ih (.cons r .nil)
section
variable {X : Cx} {pins : List (Addr × Obj)} {σ : St} {H : Hp} {s : Shared} {l b : Addr} {xs ys zs : List V}
theorem Inv.lset {its its' : List Value} {n : Nat} {f : Array Value → Array Value} {t' : Nat} (I : Inv X pins σ H s) (hH : H l = some (.lst xs))
    (e : s.heap.get? l = some { cls := .type "list", data := .seq its.toArray n }) (hf : f its.toArray = its'.toArray) (hv : Vals ys its') (hz : ys.length ≤ sizeLine) :
    Inv X pins σ (upd H l (.lst ys)) { s with heap := s.heap.update l (Obj.mapSeq f), toks := t' } := by
  have q := PySem.IsL.update e f
  rw [hf] at q
  refine I.write (x := l) (e := l) (by rw [hH]; exact trivial) (.inl rfl) (fun b' u hb hu => (Heap.get?_update_other s.heap (Obj.mapSeq f) (Ne.symm hb)).trans hu) ⟨_, q⟩ ?_
  exact ⟨hz, its', _, hv, q⟩
theorem Inv.lnew {its : List Value} {t' : Nat} (I : Inv X pins σ H s) (hv : Vals ys its) (hz : ys.length ≤ sizeLine) :
    Inv X pins σ (upd H s.heap.objs.size (.lst ys)) { s with heap := s.heap.push { cls := .type "list", data := .seq its.toArray }, toks := t' } :=
  I.laid (fun _ _ q => Heap.get?_push_of_some _ q) (Nat.le_refl _) ⟨hz, its, 0, hv, Heap.get?_push_size _ rfl⟩
theorem Inv.fresh (I : Inv X pins σ H s) : H s.heap.objs.size = none := I.hok.fresh (Nat.le_refl _)
theorem Inv.lstM (I : Inv X pins σ H s) (hH : H l = some (.lst xs)) : xs.length ≤ sizeLine ∧ ∃ (its : List Value) (n : Nat), Vals xs its ∧ xs.length = its.length ∧ s.heap.get? l = some { cls := .type "list", data := .seq its.toArray n } := by
  obtain ⟨z, its, n, r, e⟩ := I.hok l _ hH
  exact ⟨z, its, n, r, r.length, e⟩
end
section
variable {X : Cx}
def rAppend : V → List V → Hp → VK → Prop := fun x vs H Q => ∃ l xs y, x = .ref l ∧ vs = [y] ∧ H l = some (.lst xs) ∧ xs.length < sizeLine ∧ Q .non (upd H l (.lst (xs ++ [y])))
theorem mt_append : MtM X "list.append" rAppend := by
  intro pins s σ H x vs v us Q I rx rv h
  obtain ⟨l, xs, y, rfl, rfl, hH, hz, q⟩ := h
  cases rx
  obtain ⟨u, rfl, ru⟩ := rv.one
  obtain ⟨z, its, n, r, hl, e⟩ := I.lstM hH
  refine call_meets F.slot_list_append ⟨_, e, rfl⟩ F.entry_list_append (F.args_list_append_2 _ _) (PySem.list_append l its.toArray n u (by rw [List.size_toArray]; omega)) ⟨e, ?_⟩
  refine ⟨.non, _, I.lset (its' := its ++ [u]) hH e (by simp) (r.append (.cons ru .nil)) ?_, rfl, q⟩
  rw [List.length_append, List.length_singleton]
  omega
def rCat : R2 := fun x y H Q => ∃ l b xs zs, x = .ref l ∧ y = .ref b ∧ H l = some (.lst xs) ∧ H b = some (.lst zs) ∧ xs.length + zs.length ≤ sizeLine ∧ ∀ p, H p = none → Q (.ref p) (upd H p (.lst (xs ++ zs)))
theorem op_cat : OpR X (binaryOp .Add) rCat := by
  intro pins s σ H x y v u Q I rx ry h
  obtain ⟨l, b, xs, zs, rfl, rfl, hH, hB, hz, q⟩ := h
  cases rx
  cases ry
  obtain ⟨z, its, n, r, hl, e⟩ := I.lstM hH
  obtain ⟨z2, its2, n2, r2, hl2, e2⟩ := I.lstM hB
  refine PySem.P.add_list e e2 ?_ (by rw [List.size_toArray, List.size_toArray]; omega)
  have ea : its.toArray ++ its2.toArray = (its ++ its2).toArray := by simp
  rw [ea]
  exact ⟨.ref _, _, I.lnew (t' := s.toks) (r.append r2) (by rw [List.length_append]; omega), rfl, q _ I.fresh⟩
end
end L2
namespace L2
open PySem PySem.Spec PyProof.Rows
theorem Vals.ints : ∀ {ns : List Int} {us : List Value}, Vals (ns.map V.int) us → IntsAre us ns
  | [], us, h => by
    rw [List.map_nil] at h
    cases h
    exact IntsAre.nil
  | n :: ns, us, h => by
    rw [List.map_cons] at h
    cases h with
    | cons r t =>
      obtain ⟨k, rfl⟩ := r
      exact IntsAre.cons n k (Vals.ints t)
theorem vals_of_ints : ∀ {us : List Value} {ns : List Int}, IntsAre us ns → Vals (ns.map V.int) us
  | _, _, .nil => by rw [List.map_nil]; exact Paired.nil
  | _, _, .cons n t h => by rw [List.map_cons]; exact Paired.cons (show RelV (V.int n) (Value.int n t) from ⟨t, rfl⟩) (vals_of_ints h)
theorem Vals.strs : ∀ {xs : List Str} {us : List Value}, Vals (xs.map V.str) us → StrsAre us xs
  | [], us, h => by
    rw [List.map_nil] at h
    cases h
    exact StrsAre.nil
  | x :: xs, us, h => by
    rw [List.map_cons] at h
    cases h with
    | cons r t =>
      obtain ⟨k, rfl⟩ := r
      exact StrsAre.cons x k (Vals.strs t)
theorem Vals.bls : ∀ {bs : List Bool} {us : List Value}, Vals (bs.map V.bl) us → us = bs.map Value.bool
  | [], us, h => by
    rw [List.map_nil] at h
    cases h
    rfl
  | b :: bs, us, h => by
    rw [List.map_cons] at h
    cases h with
    | cons r t =>
      cases r
      rw [Vals.bls t, List.map_cons]
theorem Vals.ref1 {a : Addr} {us : List Value} (r : Vals [V.ref a] us) : us = [Value.ref a] := by
  cases r with
  | cons r t =>
    cases t
    cases r
    rfl
section
variable {prog : Program} {w : World} {A : Around} {E : Value → Shared → Prop} {s : Shared} {l : Addr} {its : List Value} {ns : List Int} {Q : Value → Shared → Prop}
theorem max_raw (hh : A.handled = none) (hl : s.heap.IsList l its.toArray) (hi : IntsAre its ns) (hne : 0 < ns.length)
    (h : ∀ h' tk M t', (∀ b o, s.heap.get? b = some o → h'.get? b = some o) → M ∈ ns → (∀ a, a ∈ ns → a ≤ M) → Q (.int M t') { s with heap := h', toks := tk }) : wpAny (model prog w) A (call (.builtin "max") [.ref l]) Q E s := by
  obtain ⟨xs, e⟩ := hi.allInts.items
  have hn : numsOf (intItems xs).toList = ns := by rw [← e]; exact hi.numsOf
  rw [nums_intItems] at hn
  subst hn
  rw [e] at hl
  have hsz : 0 < xs.size := by simpa using hne
  refine PySem.max_intList hh hl hsz fun v h' tk hv hk => ?_
  obtain ⟨t, rfl⟩ := intItems_at hv
  obtain ⟨h1, h2⟩ := argBest_gt (numAt xs) (xs.size - 1)
  refine h h' tk _ t hk ?_ fun a ha => ?_
  · rw [numAt_eq]; exact PySem.getD_mem (by rw [List.length_map, Array.length_toList]; omega)
  · obtain ⟨j, hj, rfl⟩ := mem_getD ha
    rw [List.length_map, Array.length_toList] at hj
    rw [← numAt_eq]; exact h2 j (by omega)
end
section
variable {X : Cx}
def rMax (K : PySem.W.Frag) : List V → Hp → VK → Prop := fun vs H Q => ∃ (a : Addr) (ns : List Int), vs = [V.ref a] ∧ SqL K H a (ns.map V.int) ∧ 0 < ns.length ∧ ∀ m, m ∈ ns → (∀ y, y ∈ ns → y ≤ m) → Q (.int m) H
theorem cr_max (hc : X.calm = true) : CallR X (.builtin "max") (rMax X.K) := by
  intro pins s σ H vs us Q I r h
  obtain ⟨a, ns, rfl, hs, hne, q⟩ := h
  obtain ⟨its, rv, hl, _⟩ := I.list hs
  rw [Vals.ref1 r]
  exact max_raw (I.ok.hd hc) hl.isList rv.ints hne fun h' tk m t' hk h1 h2 => ⟨.int _, H, I.kept hk, ⟨_, rfl⟩, q m h1 h2⟩
theorem small64 {n : Nat} (h : n < 64) : n ≤ sizeLine := by rw [sizeLine_eq]; omega
end
theorem iter_any {prog : Program} {w : World} {A : Around} {E : Value → Shared → Prop} {s : Shared} {l : Addr} {items : Array Value} {Q : Value → Shared → Prop} (hl : s.heap.IsList l items)
    (h : ∀ s₂ : Shared, s₂ = { s with heap := s.heap.push { cls := .type "list_iterator", data := .fields #[.ref l, .int 0 0] } } →
      (s₂.heap.IsListIter s.heap.objs.size l 0 ∧ s₂.heap.IsList l items) → l ≠ s.heap.objs.size → Q (.ref s.heap.objs.size) s₂) : wpAny (model prog w) A (pyIter (.ref l)) Q E s := by
  have hlt : l < s.heap.objs.size := by obtain ⟨_, e, _⟩ := hl; exact Heap.lt_size e
  exact wpAny_pyIter_list hl (h _ rfl ⟨⟨_, Heap.get?_push_size _ rfl, rfl, rfl⟩, hl.push _⟩ (Nat.ne_of_lt hlt))
theorem truth_bools {prog : Program} {w : World} {A : Around} {bs : List Bool} {its : List Value} (e : its = bs.map Value.bool) :
    TruthOf prog w A (fun i v => its.toArray[i]? = some v) (fun i => bs.getD i false) := fun i v s Q E hv hq => by
  have hv' : its[i]? = some v := by simpa using hv
  rw [e, List.getElem?_map] at hv'
  obtain ⟨b, hb, rfl⟩ := Option.map_eq_some_iff.mp hv'
  have hg : bs.getD i false = b := by rw [List.getD_eq_getElem?_getD, hb] <;> rfl
  have hq' : Q (bs.getD i false) s := hq
  rw [hg] at hq'
  exact wpAny_truthy_bool hq'
theorem all_range : ∀ bs : List Bool, (List.range bs.length).all (fun i => bs.getD i false) = bs.all id
  | [] => rfl
  | b :: bs => by
    rw [List.length_cons, List.range_succ_eq_map, List.all_cons, List.all_map, List.all_cons, ← all_range bs]
    all_goals rfl
section
variable {X : Cx}
def rAll (K : PySem.W.Frag) : List V → Hp → VK → Prop := fun vs H Q => ∃ (a : Addr) (bs : List Bool), vs = [V.ref a] ∧ SqL K H a (bs.map V.bl) ∧ Q (.bl (bs.all id)) H
theorem cr_all (hc : X.calm = true) : CallR X (.builtin "all") (rAll X.K) := by
  intro pins s σ H vs us Q I r h
  obtain ⟨a, bs, rfl, hs, q⟩ := h
  obtain ⟨its, rv, hl, _⟩ := I.list hs
  rw [Vals.ref1 r]
  have hb := rv.bls
  refine call_all_walk (iter_any hl.isList fun s₂ e2 st hne => ?_)
  subst e2
  refine ⟨_, _, _, _, _, _, _, rfl, Walks.list (A := X.A.in1) (I.ok.hd hc) _ a hne its.toArray, st, truth_bools hb, fun h' tk hk => ?_⟩
  refine ⟨.bl _, H, I.kept fun b o eo => hk b o (fun hmem => ?_) (Heap.get?_push_of_some _ eo), ?_, q⟩
  · rcases List.mem_cons.mp hmem with e1 | hmem
    · exact absurd (e1 ▸ Heap.lt_size eo) (Nat.lt_irrefl _)
    · cases hmem
  · show Value.bool _ = Value.bool _
    rw [← all_range, hb, List.size_toArray, List.length_map]
end
mutual
inductive Dp (K : PySem.W.Frag) (H : Hp) : V → PyData → Prop
  | non : Dp K H .non .none
  | bl (b : Bool) : Dp K H (.bl b) (.bool b)
  | int (i : Int) : Dp K H (.int i) (.int i)
  | str (x : Str) : Dp K H (.str x) (.str x)
  | lst {a : Addr} {xs : List V} {ds : List PyData} : SqL K H a xs → DpAll K H xs ds → Dp K H (.ref a) (.list ds)
  | tup {a : Addr} {xs : List V} {ds : List PyData} : SqT K H a xs → DpAll K H xs ds → Dp K H (.ref a) (.tuple ds)
inductive DpAll (K : PySem.W.Frag) (H : Hp) : List V → List PyData → Prop
  | nil : DpAll K H [] []
  | cons {v : V} {vs : List V} {d : PyData} {ds : List PyData} : Dp K H v d → DpAll K H vs ds → DpAll K H (v :: vs) (d :: ds)
end
section
variable {X : Cx} {pins : List (Addr × Obj)} {σ : St} {H : Hp} {s : Shared}
mutual
theorem Dp.reads (I : Inv X pins σ H s) : ∀ (d : PyData) (v : V) (u : Value), Dp X.K H v d → RelV v u → ∃ as, Reads s.heap u d as
  | .none, _, _, h, r => by
    cases h
    cases r
    exact ⟨_, Reads.none⟩
  | .bool b, _, _, h, r => by
    cases h
    cases r
    exact ⟨_, Reads.bool b⟩
  | .int i, _, _, h, r => by
    cases h
    obtain ⟨t, rfl⟩ := r
    exact ⟨_, Reads.int i t⟩
  | .str x, _, _, h, r => by
    cases h
    obtain ⟨t, rfl⟩ := r
    exact ⟨_, Reads.str x t⟩
  | .list ds, _, _, h, r => by
    cases h with
    | lst hs ha =>
      cases r
      obtain ⟨its, rv, ⟨o, n, ho, hc, _, hd⟩, _⟩ := I.list hs
      obtain ⟨as, hr⟩ := Dp.readsAll I ds _ its ha rv
      exact ⟨_, Reads.list ho hc hd hr⟩
  | .tuple ds, _, _, h, r => by
    cases h with
    | tup hs ha =>
      cases r
      obtain ⟨its, rv, ⟨o, ho, hc, n, hd⟩, _⟩ := I.tuple hs
      obtain ⟨as, hr⟩ := Dp.readsAll I ds _ its ha rv
      exact ⟨_, Reads.tuple ho hc hd hr⟩
  | .dict _, _, _, h, _ => by cases h
theorem Dp.readsAll (I : Inv X pins σ H s) : ∀ (ds : List PyData) (vs : List V) (us : List Value), DpAll X.K H vs ds → Vals vs us → ∃ as, ReadsAll s.heap us ds as
  | [], _, _, h, r => by
    cases h
    cases r
    exact ⟨_, ReadsAll.nil⟩
  | d :: ds, _, _, h, r => by
    cases h with
    | cons h1 h2 =>
      cases r with
      | cons r1 r2 =>
        obtain ⟨as, q1⟩ := Dp.reads I d _ _ h1 r1
        obtain ⟨bs, q2⟩ := Dp.readsAll I ds _ _ h2 r2
        exact ⟨_, ReadsAll.cons q1 q2⟩
end
end
section
variable {X : Cx}
def rEqD (K : PySem.W.Frag) : R2 := fun x y H Q => ∃ d e, Dp K H x d ∧ Dp K H y e ∧ SeqAt.shaped d = true ∧ SeqAt.shaped e = true ∧ Q (.bl (PyData.eqv d e)) H
def rNeD (K : PySem.W.Frag) : R2 := fun x y H Q => ∃ d e, Dp K H x d ∧ Dp K H y e ∧ SeqAt.shaped d = true ∧ SeqAt.shaped e = true ∧ Q (.bl (!PyData.eqv d e)) H
theorem op_eqD (hu : X.A.units + 64 < cLine) : OpR X (compareOp .Eq) (rEqD X.K) := by
  intro pins s σ H x y v u Q I rx ry h
  obtain ⟨d, e, hd, he, sd, se, q⟩ := h
  obtain ⟨as, r1⟩ := Dp.reads I d x v hd rx
  obtain ⟨bs, r2⟩ := Dp.reads I e y u he ry
  exact SeqAt.compareEq_shaped r1 r2 sd se hu ⟨.bl _, H, I, rfl, q⟩
theorem op_neD (hu : X.A.units + 64 < cLine) : OpR X (compareOp .NotEq) (rNeD X.K) := by
  intro pins s σ H x y v u Q I rx ry h
  obtain ⟨d, e, hd, he, sd, se, q⟩ := h
  obtain ⟨as, r1⟩ := Dp.reads I d x v hd rx
  obtain ⟨bs, r2⟩ := Dp.reads I e y u he ry
  exact SeqAt.compareNe_shaped r1 r2 sd se hu ⟨.bl _, H, I, rfl, q⟩
end
end L2
namespace L2
open PySem PySem.Spec PyProof.Rows
abbrev CellAt (h : Heap) (c : Addr) (v : Option Value) : Prop := h.IsCell c v
def relS (scope sc : Scope) : Scope :=
  { scope with names := scope.names.map fun (n, k) => if (k == .free && sc.kind == .function && sc.names.lookup n == some .cell) then (n, .cell) else (n, k) }
def cloFrom (cells : List (Str × Addr)) : List (Str × NameKind) → List (Str × Addr) → List (Str × Addr)
  | [], acc => acc
  | (n, k) :: r, acc => if k == .free then cloFrom cells r ((n, (cells.lookup n).getD 0) :: acc) else cloFrom cells r acc
theorem closure_loop (env : Env) (f : Str × NameKind → List (Str × Addr) → Sem (ForInStep (List (Str × Addr))))
    (hf : ∀ n k c, f (n, k) c = if k == .free then (do let a ← cellOf env n; pure (.yield ((n, a) :: c))) else pure (.yield c)) :
    ∀ (names : List (Str × NameKind)) (acc : List (Str × Addr)), (∀ y ∈ names, y.2 = .free → ∃ c, env.cells.lookup y.1 = some c) → forIn names acc f = pure (cloFrom env.cells names acc)
  | [], acc, _ => by rw [List.forIn_nil]; rfl
  | (n, k) :: r, acc, h => by
    rw [List.forIn_cons, hf]
    have ih := fun acc => closure_loop env f hf r acc fun y hy => h y (List.mem_cons_of_mem _ hy)
    unfold cloFrom
    by_cases hk : (k == NameKind.free) = true
    · rw [if_pos hk, if_pos hk]
      obtain ⟨c, hc⟩ := h (n, k) List.mem_cons_self (by simpa using hk)
      have e : cellOf env n = pure c := by unfold cellOf; rw [hc]
      rw [e]
      have e2 : (env.cells.lookup n).getD 0 = c := by rw [hc]; rfl
      rw [e2]
      exact ih _
    · rw [if_neg hk, if_neg hk]
      exact ih _
theorem closure_ok {scope : Scope} {env : Env} (h : ∀ y ∈ scope.names, y.2 = .free → ∃ c, env.cells.lookup y.1 = some c) : closureFor scope env = pure (cloFrom env.cells scope.names []) := by
  simp only [closureFor]
  rw [closure_loop env _ (fun n k c => rfl) scope.names [] h]
  rfl
theorem mem_lookup {α : Type} : ∀ {l : List (Str × α)} {n : Str} {c : α}, (n, c) ∈ l → ∃ c', l.lookup n = some c'
  | (k, v) :: r, n, c, h => by
    rw [List.lookup_cons]
    cases hb : n == k with
    | true => exact ⟨_, rfl⟩
    | false =>
      rcases List.mem_cons.mp h with e | h
      · cases e; simp at hb
      · exact mem_lookup h
theorem cloFrom_mem {cells : List (Str × Addr)} : ∀ {names : List (Str × NameKind)} {acc : List (Str × Addr)} {n : Str} {c : Addr}, (n, c) ∈ cloFrom cells names acc → (n, c) ∈ acc ∨ ((n, .free) ∈ names ∧ c = (cells.lookup n).getD 0)
  | [], _, _, _, h => .inl h
  | (m, k) :: r, acc, n, c, h => by
    unfold cloFrom at h
    split at h
    · rename_i hk
      have hk : k = .free := by simpa using hk
      rcases cloFrom_mem h with h | ⟨h1, h2⟩
      · rcases List.mem_cons.mp h with e | h
        · cases e; exact .inr ⟨hk ▸ List.mem_cons_self, rfl⟩
        · exact .inl h
      · exact .inr ⟨List.mem_cons_of_mem _ h1, h2⟩
    · rcases cloFrom_mem h with h | ⟨h1, h2⟩
      · exact .inl h
      · exact .inr ⟨List.mem_cons_of_mem _ h1, h2⟩
theorem cloFrom_acc {cells : List (Str × Addr)} : ∀ {names : List (Str × NameKind)} {acc : List (Str × Addr)} {p : Str × Addr}, p ∈ acc → p ∈ cloFrom cells names acc
  | [], _, _, h => h
  | (m, k) :: r, acc, p, h => by
    unfold cloFrom
    split
    · exact cloFrom_acc (List.mem_cons_of_mem _ h)
    · exact cloFrom_acc h
theorem cloFrom_has {cells : List (Str × Addr)} : ∀ {names : List (Str × NameKind)} {acc : List (Str × Addr)} {n : Str}, (n, .free) ∈ names → (n, (cells.lookup n).getD 0) ∈ cloFrom cells names acc
  | (m, k) :: r, acc, n, h => by
    unfold cloFrom
    rcases List.mem_cons.mp h with e | h
    · cases e
      exact cloFrom_acc List.mem_cons_self
    · split
      · exact cloFrom_has h
      · exact cloFrom_has h
theorem cells_mem : ∀ {names : List (Str × NameKind)} {h : Heap} {acc : List (Str × Addr)} {x : Str} {c : Addr}, (x, c) ∈ cellsFrom h.objs.size names acc →
    (x, c) ∈ acc ∨ ((x, .cell) ∈ names ∧ h.objs.size ≤ c ∧ CellAt (pushCells h names) c none)
  | [], _, _, _, _, h => .inl h
  | (n, k) :: r, h, acc, x, c, hm => by
    unfold cellsFrom at hm
    unfold pushCells
    split at hm
    · rename_i hk
      rw [if_pos hk]
      have hk : k = .cell := by simpa using hk
      rw [← Heap.size_push h { cls := .type "cell", data := .cell none }] at hm
      rcases cells_mem hm with hm | ⟨h1, h2, h3⟩
      · rcases List.mem_cons.mp hm with e | hm
        · cases e
          exact .inr ⟨hk ▸ List.mem_cons_self, Nat.le_refl _, _, pushCells_keeps r _ _ _ (Heap.get?_push_size _ rfl), rfl⟩
        · exact .inl hm
      · rw [Heap.size_push] at h2
        exact .inr ⟨List.mem_cons_of_mem _ h1, Nat.le_of_succ_le h2, h3⟩
    · rename_i hk
      rw [if_neg hk]
      rcases cells_mem hm with hm | ⟨h1, h2, h3⟩
      · exact .inl hm
      · exact .inr ⟨List.mem_cons_of_mem _ h1, h2, h3⟩
theorem cells_acc : ∀ {names : List (Str × NameKind)} {n : Nat} {acc : List (Str × Addr)} {p : Str × Addr}, p ∈ acc → p ∈ cellsFrom n names acc
  | [], _, _, _, h => h
  | (m, k) :: r, n, acc, p, h => by
    unfold cellsFrom
    split
    · exact cells_acc (List.mem_cons_of_mem _ h)
    · exact cells_acc h
theorem cells_has : ∀ {names : List (Str × NameKind)} {n : Nat} {acc : List (Str × Addr)} {x : Str}, (x, .cell) ∈ names → ∃ c, (x, c) ∈ cellsFrom n names acc
  | (m, k) :: r, n, acc, x, h => by
    unfold cellsFrom
    rcases List.mem_cons.mp h with e | h
    · cases e
      exact ⟨n, cells_acc List.mem_cons_self⟩
    · split
      · exact cells_has h
      · exact cells_has h
theorem cells_inj : ∀ {names : List (Str × NameKind)} {h : Heap} {acc : List (Str × Addr)} {x y : Str} {c : Addr}, (∀ p ∈ acc, p.2 < h.objs.size) → (∀ x y c, (x, c) ∈ acc → (y, c) ∈ acc → x = y) →
    (x, c) ∈ cellsFrom h.objs.size names acc → (y, c) ∈ cellsFrom h.objs.size names acc → x = y
  | [], _, _, _, _, _, _, hi, h1, h2 => hi _ _ _ h1 h2
  | (n, k) :: r, h, acc, x, y, c, hl, hi, h1, h2 => by
    unfold cellsFrom at h1 h2
    split at h1
    · rename_i hk
      rw [if_pos hk] at h2
      rw [← Heap.size_push h { cls := .type "cell", data := .cell none }] at h1 h2
      refine cells_inj (h := h.push _) (fun p hp => ?_) (fun x y c a b => ?_) h1 h2
      · rw [Heap.size_push]
        rcases List.mem_cons.mp hp with rfl | hp
        · exact Nat.lt_succ_self _
        · exact Nat.lt_succ_of_lt (hl p hp)
      · rcases List.mem_cons.mp a with e | a <;> rcases List.mem_cons.mp b with e' | b
        · cases e; cases e'; rfl
        · cases e; exact absurd (hl _ b) (Nat.lt_irrefl _)
        · cases e'; exact absurd (hl _ a) (Nat.lt_irrefl _)
        · exact hi _ _ _ a b
    · rename_i hk
      rw [if_neg hk] at h2
      exact cells_inj hl hi h1 h2
theorem newEnv_comp {M : Model} {A : Around} {E : Value → Shared → Prop} {s : Shared} {scope : Scope} {globals : Addr} {closure : List (Str × Addr)} {qual : Str} {func : Option Addr} {code : Value} {around : Env} {builtins : Addr} {Q : Env → Shared → Prop}
    (h : Q (newEnv scope s.heap.objs.size globals (cellsFrom (s.heap.objs.size + 1) scope.names closure) qual func code (some around) builtins)
      { s with heap := pushCells (s.heap.push { cls := .type "dict", data := .dict #[] }) scope.names }) :
    wpAny M A (newFunctionEnv scope globals closure [] qual func code (some around) builtins) Q E s := by
  simp only [newFunctionEnv, Option.isSome_some, if_true]
  refine wpAny_bind (wpAny_alloc ?_)
  refine wpAny_bind (wpAny_layCells _ (fun n k c => rfl) scope.names closure _ _ ?_)
  rw [show ({ s with heap := s.heap.push { cls := .type "dict", data := .dict #[] } } : Shared).heap.objs.size = s.heap.objs.size + 1 from Heap.size_push ..]
  rw [List.forIn_nil]
  exact wpAny_bind (wpAny_pure (wpAny_pure h))
theorem lookup_relS {sc : Scope} : ∀ {names : List (Str × NameKind)} {x : Str} {k : NameKind},
    (names.map fun (n, k) => if (k == NameKind.free && sc.kind == .function && sc.names.lookup n == some .cell) then (n, NameKind.cell) else (n, k)).lookup x = some k →
    ∃ k', names.lookup x = some k' ∧ (k = k' ∨ (k' = .free ∧ k = .cell))
  | [], _, _, h => by simp at h
  | (n, k₀) :: r, x, k, h => by
    have ih := @lookup_relS sc r x k
    have h' : List.lookup x ((if (k₀ == NameKind.free && sc.kind == .function && sc.names.lookup n == some .cell) = true then (n, NameKind.cell) else (n, k₀)) :: (r.map _)) = some k := h
    cases hx : x == n with
    | true =>
      simp only [List.lookup_cons, hx]
      by_cases hc : (k₀ == NameKind.free && sc.kind == .function && sc.names.lookup n == some .cell) = true
      · rw [if_pos hc] at h'
        simp only [List.lookup_cons, hx] at h'
        cases h'
        simp only [Bool.and_eq_true, beq_iff_eq] at hc
        exact ⟨k₀, rfl, .inr ⟨hc.1.1, rfl⟩⟩
      · rw [if_neg hc] at h'
        simp only [List.lookup_cons, hx] at h'
        cases h'
        exact ⟨_, rfl, .inl rfl⟩
    | false =>
      simp only [List.lookup_cons, hx]
      by_cases hc : (k₀ == NameKind.free && sc.kind == .function && sc.names.lookup n == some .cell) = true
      · rw [if_pos hc] at h'
        simp only [List.lookup_cons, hx] at h'
        exact ih h'
      · rw [if_neg hc] at h'
        simp only [List.lookup_cons, hx] at h'
        exact ih h'
structure BlkOk (N : List Str) (sc scope : Scope) (own : List (Str × Nat)) : Prop where
  kind : scope.kind = .function
  uniq : ∀ y ∈ scope.names, scope.names.lookup y.1 = some y.2
  ix : ∀ p ∈ own, N[p.2]? = some p.1
  free : ∀ y ∈ scope.names, y.2 = .free → sc.names.lookup y.1 = some .cell ∨ sc.names.lookup y.1 = some .free
  own : ∀ y ∈ scope.names, y.2 = .local ∨ y.2 = .cell → y.1 ∈ own.map (·.1) ∨ y.1 ∉ N
def wipe (σ : St) : List Nat → St
  | [] => σ
  | v :: vs => (wipe σ vs).set v none
theorem wipe_length (σ : St) : ∀ vs : List Nat, (wipe σ vs).length = σ.length
  | [] => rfl
  | v :: vs => by unfold wipe; rw [List.length_set, wipe_length σ vs]
theorem wipe_some {σ : St} {i : Nat} {x : V} : ∀ {vs : List Nat}, (wipe σ vs)[i]? = some (some x) → σ[i]? = some (some x) ∧ i ∉ vs
  | [], h => ⟨h, by simp⟩
  | v :: vs, h => by
    unfold wipe at h
    by_cases hi : v = i
    · subst hi
      by_cases hv : v < (wipe σ vs).length
      · rw [List.getElem?_set_self hv] at h; cases h
      · rw [List.getElem?_eq_none (by simpa using hv)] at h; cases h
    · rw [List.getElem?_set_ne hi] at h
      obtain ⟨h1, h2⟩ := wipe_some h
      exact ⟨h1, by simp only [List.mem_cons, not_or]; exact ⟨fun e => hi e.symm, h2⟩⟩
abbrev Cx.blk (X : Cx) (s : Shared) (H : Hp) (scope : Scope) (cenv : Env) (fp : List Addr) : Cx := { X with s_0 := s, H_0 := H, env := cenv, outer := X.stack, ex := fp, fn := fun x => scope.names.lookup x == some .cell, pn := [], xe := fun _ _ => False }
section
variable {X : Cx} {pins : List (Addr × Obj)} {σ : St} {H : Hp} {s : Shared}
theorem block_start {scope : Scope} {own : List (Str × Nat)} {fp : List Addr} (I : Inv X pins σ H s) (ok : BlkOk X.N X.env.scope scope own) (hN : X.N.Nodup) (hfp : ∀ b ∈ fp, FpOk X pins H b ∧ b < s.heap.objs.size) :
    Inv (X.blk s H scope (compEnvC scope (cellsFrom (s.heap.objs.size + 1) scope.names (cloFrom X.env.cells scope.names [])) s.heap.objs.size X.env) fp) [] (wipe σ (own.map (·.2))) H { s with heap := pushCells (s.heap.push { cls := .type "dict", data := .dict #[] }) scope.names } := by
  have hfree : ∀ y ∈ scope.names, y.2 = .free → ∃ c, X.env.cells.lookup y.1 = some c := fun y hy e => by
    rcases ok.free y hy e with k | k
    · exact I.ok.has _ (.inl k)
    · exact I.ok.has _ (.inr k)
  generalize hcenv : compEnvC scope (cellsFrom (s.heap.objs.size + 1) scope.names (cloFrom X.env.cells scope.names [])) s.heap.objs.size X.env = cenv
  have kp : ∀ b o, s.heap.get? b = some o → (pushCells (s.heap.push { cls := .type "dict", data := .dict #[] }) scope.names).get? b = some o := fun b o e => pushCells_keeps _ _ _ _ (Heap.get?_push_of_some _ e)
  have hL : cenv.locals = s.heap.objs.size := by rw [← hcenv]; rfl
  have hcl : cenv.cells = cellsFrom (s.heap.objs.size + 1) scope.names (cloFrom X.env.cells scope.names []) := by rw [← hcenv]; rfl
  have hsc : cenv.scope = relS scope X.env.scope := by rw [← hcenv]; rfl
  rw [← Heap.size_push s.heap { cls := .type "dict", data := .dict #[] }] at hcl
  have cm : ∀ {y c}, (y, c) ∈ cloFrom X.env.cells scope.names [] → X.env.cells.lookup y = some c ∧ c < s.heap.objs.size := fun {y c} hm => by
    rcases cloFrom_mem hm with hm | ⟨h1, rfl⟩
    · cases hm
    · obtain ⟨c, hc⟩ := hfree _ h1 rfl
      rw [hc]
      obtain ⟨w, z⟩ := I.cell _ _ hc
      exact ⟨rfl, z.lt⟩
  have mem : ∀ {y c}, cenv.cells.lookup y = some c → (X.env.cells.lookup y = some c ∧ c < s.heap.objs.size) ∨ (s.heap.objs.size + 1 ≤ c ∧ CellAt (pushCells (s.heap.push { cls := .type "dict", data := .dict #[] }) scope.names) c none) := fun {y c} e => by
    rw [hcl] at e
    rcases cells_mem (PySem.mem_of_lookup e) with hm | ⟨_, h2, h3⟩
    · exact .inl (cm hm)
    · rw [Heap.size_push] at h2; exact .inr ⟨h2, h3⟩
  have look : ∀ {y}, scope.names.lookup y = some .free → ∃ c, cenv.cells.lookup y = some c ∧ X.env.cells.lookup y = some c := fun {y} hl => by
    have hy : (y, NameKind.free) ∈ scope.names := PySem.mem_of_lookup hl
    obtain ⟨c', e'⟩ := mem_lookup (cells_acc (names := scope.names) (n := (s.heap.push { cls := .type "dict", data := .dict #[] }).objs.size) (cloFrom_has (cells := X.env.cells) (acc := []) hy))
    rw [← hcl] at e'
    refine ⟨c', e', ?_⟩
    rw [hcl] at e'
    rcases cells_mem (PySem.mem_of_lookup e') with hm | ⟨h1, _, _⟩
    · exact (cm hm).1
    · have := ok.uniq _ h1
      rw [hl] at this; cases this
  have okB : (X.blk s H scope cenv fp).Ok := by
    refine ⟨I.ok.mod, by show cenv.scope.kind = _; rw [hsc]; exact ok.kind, by show cenv.globals = _; rw [← hcenv]; exact I.ok.glob, by show cenv.builtins = _; rw [← hcenv]; exact I.ok.blt, by show s.heap.objs.size ≤ cenv.locals; rw [hL]; exact Nat.le_refl _,
      fun y z c e1 e2 => ?_, fun y hy => ?_, fun y c z e => ?_, I.ok.hd, I.ok.frames, .inl rfl, fun b hb => ⟨?_, fun y c e z => ?_⟩, I.bs, Nat.le_trans I.ok.bsz I.sz, fun b o e hb => ?_, fun b hb z => ?_, I.stack, I.stkFree⟩
    · have e1 : cenv.cells.lookup y = some c := e1
      have e2 : cenv.cells.lookup z = some c := e2
      rw [hcl] at e1 e2
      refine cells_inj (fun p hp => ?_) (fun y z c a b => I.ok.inj y z c (cm a).1 (cm b).1) (PySem.mem_of_lookup e1) (PySem.mem_of_lookup e2)
      rw [Heap.size_push]
      exact Nat.lt_succ_of_lt (cm (y := p.1) (c := p.2) hp).2
    · show ∃ c, cenv.cells.lookup y = some c
      have key : ∀ k, cenv.kindOf y = some k → (k = .cell ∨ k = .free) → ∃ c, cenv.cells.lookup y = some c := fun k hk hk' => by
        unfold Env.kindOf at hk
        rw [hsc] at hk
        obtain ⟨k', e, r⟩ := lookup_relS hk
        have : k' = .cell ∨ k' = .free := by
          rcases r with rfl | ⟨rfl, _⟩
          · exact hk'
          · exact .inr rfl
        rcases this with rfl | rfl
        · obtain ⟨c, hm⟩ := cells_has (n := (s.heap.push { cls := .type "dict", data := .dict #[] }).objs.size) (acc := cloFrom X.env.cells scope.names []) (PySem.mem_of_lookup e)
          obtain ⟨c', e'⟩ := mem_lookup hm
          exact ⟨c', by rw [hcl]; exact e'⟩
        · obtain ⟨c, h1, _⟩ := look e
          exact ⟨c, h1⟩
      rcases hy with hy | hy
      · exact key _ hy (.inl rfl)
      · exact key _ hy (.inr rfl)
    · have z : (scope.names.lookup y == some NameKind.cell) = true := z
      have z : scope.names.lookup y = some .cell := by simpa using z
      have e : cenv.cells.lookup y = some c := e
      rw [hcl] at e
      rcases cells_mem (PySem.mem_of_lookup e) with hm | ⟨_, h2, _⟩
      · rcases cloFrom_mem hm with hm | ⟨h1, _⟩
        · cases hm
        · have q := ok.uniq _ h1
          rw [z] at q; cases q
      · rw [Heap.size_push] at h2
        exact Nat.le_of_succ_le h2
    · show b ≠ cenv.locals
      rw [hL]; exact Nat.ne_of_lt (hfp b hb).2
    · have e : cenv.cells.lookup y = some c := e
      rcases mem e with ⟨h1, _⟩ | ⟨h1, _⟩
      · exact (hfp b hb).1.2.2.2.2.1 y c h1 z
      · have h2 : s.heap.objs.size + 1 ≤ b := by rw [← z]; exact h1
        exact absurd (Nat.lt_of_lt_of_le (hfp b hb).2 (Nat.le_of_succ_le h2)) (Nat.lt_irrefl _)
    · rcases (hfp b hb).1.2.2.2.1 with z | z
      · exact I.ok.noex b o e z
      · exact absurd (Nat.lt_of_lt_of_le (Heap.lt_size e) (Nat.le_trans I.ok.bsz z)) (Nat.lt_irrefl _)
    · rcases List.mem_cons.mp (I.stkSub b z) with z | z
      · exact (hfp b hb).1.2.1 z
      · exact (hfp b hb).1.2.2.1 z
  refine ⟨okB, rfl, I.bare, Un.kept kp, ⟨fun _ => none, ?_, fun i y av e1 e2 e3 => ?_⟩, fun y c e => ?_, ?_, fun y c e => ?_, fun p hp => ?_, I.hok.kept kp, by rw [wipe_length]; exact I.len⟩
  · show Heap.Ns _ cenv.locals _
    rw [hL]
    exact Heap.Ns.keeps (Heap.Ns.new ..) fun b o e => pushCells_keeps _ _ _ _ e
  · obtain ⟨e2, hne⟩ := wipe_some e2
    have hfr : scope.names.lookup y = some .free ∧ (cenv.kindOf y = some .cell ∨ cenv.kindOf y = some .free) := by
      have key : ∀ k, cenv.scope.names.lookup y = some k → k = .local ∨ k = .cell ∨ k = .free → scope.names.lookup y = some .free ∧ (cenv.kindOf y = some .cell ∨ cenv.kindOf y = some .free) := fun k hk hk' => by
        have hk0 := hk
        rw [hsc] at hk
        obtain ⟨k', e, r⟩ := lookup_relS hk
        have no : ¬ (k' = .local ∨ k' = .cell) := fun hh => by
          rcases ok.own _ (PySem.mem_of_lookup e) hh with e' | e'
          · obtain ⟨p, hp, hpy⟩ := List.mem_map.mp e'
            have e3 := ok.ix p hp
            have : p.1 = y := hpy
            rw [this] at e3
            exact hne (List.mem_map.mpr ⟨p, hp, nodup_ix hN e3 e1⟩)
          · exact e' (List.mem_of_getElem? e1)
        rcases r with rfl | ⟨rfl, rfl⟩
        · rcases hk' with rfl | rfl | rfl
          · exact absurd (.inl rfl) no
          · exact absurd (.inr rfl) no
          · exact ⟨e, .inr hk0⟩
        · exact ⟨e, .inl hk0⟩
      have e3 : Vis cenv.scope y := e3
      rcases e3 with e3 | e3 | e3
      · exact key _ e3 (.inl rfl)
      · exact key _ e3 (.inr (.inl rfl))
      · exact key _ e3 (.inr (.inr rfl))
    obtain ⟨m, hn, hl⟩ := I.loc
    have hvis : Vis X.env.scope y := (ok.free _ (PySem.mem_of_lookup hfr.1) rfl).elim (fun k => .inr (.inl k)) (fun k => .inr (.inr k))
    obtain ⟨w, r, q⟩ := hl i y av e1 e2 hvis
    refine ⟨w, r, .inr ⟨hfr.2, ?_⟩⟩
    obtain ⟨c, h1, h2⟩ := look hfr.1
    rcases q with ⟨k, _⟩ | ⟨_, c', e', z⟩
    · have k : X.env.scope.names.lookup y = some .local := k
      rcases ok.free _ (PySem.mem_of_lookup hfr.1) rfl with k' | k' <;> rw [show X.env.scope.names.lookup y = _ from k'] at k <;> cases k
    · rw [h2] at e'; cases e'
      exact ⟨c, h1, z.keeps kp⟩
  · have e : cenv.cells.lookup y = some c := e
    rcases mem e with ⟨h1, _⟩ | ⟨_, z⟩
    · obtain ⟨w, z⟩ := I.cell y c h1
      exact ⟨w, z.keeps kp⟩
    · exact ⟨_, z⟩
  · show H cenv.locals = none
    rw [hL]; exact I.hok.fresh (Nat.le_refl _)
  · have e : cenv.cells.lookup y = some c := e
    rcases mem e with ⟨h1, _⟩ | ⟨h1, _⟩
    · exact I.freeC y c h1
    · exact I.hok.fresh (Nat.le_of_succ_le h1)
  · exact absurd (show p ∈ ([] : List (Addr × Obj)) ++ [] from hp) (by simp)
theorem app_ok {E : Value → Shared → Prop} {D : Addr} {xs : List V} {y : V} {v : Value} {Q : Value → Shared → Prop} (I : Inv X pins σ H s) (hD : H D = some (.lst xs)) (hz : xs.length < sizeLine) (r : RelV y v)
    (h : ∀ s', Inv X pins σ (upd H D (.lst (xs ++ [y]))) s' → Q .none s') : wpAny (model X.prog X.w) X.A (call (.builtin "list.append") [.ref D, v]) Q E s := by
  obtain ⟨hz', its, n, ri, e⟩ := I.hok D _ hD
  have hl := ri.length
  refine append_at (hsz := by rw [List.size_toArray]; omega) e fun h' sb ho' => ?_
  refine h { s with heap := h' } (I.write (t' := s.toks) (by rw [hD]; trivial) (.inl rfl) (fun b u hb q => (sb.2 b hb).trans q) ⟨_, ho'⟩ ⟨by rw [List.length_append]; exact hz, its ++ [v], n + 1, ri.append (.cons r .nil), ?_⟩)
  rw [ho']
  simp
def PTs (X : Cx) (ifs : List Expr) (t : TT) : Prop :=
  ∀ (pins : List (Addr × Obj)) (s : Shared) (σ : St) (H : Hp) (Q : Bool → Hp → Prop), Inv X pins σ H s → t σ H Q →
    wpAny (model X.prog X.w) X.A (forIn ifs true fun c r => if r = true then do let ok ← isTrue c X.env (eval c X.env); pure (ForInStep.yield ok) else pure (ForInStep.yield r)) (TP X pins σ Q) X.xe s
def tYes : TT := fun _ H Q => Q true H
theorem pts_nil : PTs X [] tYes := fun _ _ _ H _ I h => wpAny_tests_nil ⟨H, I, h⟩
theorem pts_one {c : Expr} {t : TT} (h : PT X c t) : PTs X [c] t := fun pins s σ H Q I hw => wpAny_tests_one (h pins s σ H Q I hw)
end
theorem thnF {α : Type} {t : Sem α} {Q Q' : α → Shared → Prop} {M : Model} {A : Around} {E : Value → Shared → Prop} {s : Shared} (h : wpAny M A t Q (fun _ _ => False) s) (hQ : ∀ a s, Q a s → Q' a s) : wpAny M A t Q' E s := wpAny_mono h hQ fun _ _ z => False.elim z
theorem compLoop_any {prog : Program} {w : World} {A : Around} {R : Result → Shared → Prop} {s : Shared} {elt target iter : Expr} {ifs : List Expr} {scope : Scope} {pos : Pos} {it acc : Value} {env : Env} (I : Nat → Shared → Prop)
    (turn : ∀ n s, I n s → wpAny (model prog w) A (pyNext it) (fun r s₁ => match r with
      | none => R (.ok .next) s₁
      | some v => wpAny (model prog w) A (letOwnedTupleGo target it v) (fun _ s₁' => wpAny (model prog w) A (assign target env v) (fun _ s₂ =>
          wpAny (model prog w) A (forIn ifs true fun c r => if r = true then do let ok ← isTrue c env (eval c env); pure (ForInStep.yield ok) else pure (ForInStep.yield r)) (fun ok s₃ =>
            if ok = true then wpAny (model prog w) A (eval elt env) (fun x s₄ =>
              wpAny (model prog w) A (call (.builtin "list.append") [acc, x]) (fun _ s₅ => ∃ m, m < n ∧ I m s₅) (notedBy (model prog w) A env fun e s' => R (.error e) s') s₄) (notedBy (model prog w) A env fun e s' => R (.error e) s') s₃
            else ∃ m, m < n ∧ I m s₃) (notedBy (model prog w) A env fun e s' => R (.error e) s') s₂) (notedBy (model prog w) A env fun e s' => R (.error e) s') s₁') (notedBy (model prog w) A env fun e s' => R (.error e) s') s₁) (notedBy (model prog w) A env fun e s' => R (.error e) s') s)
    (n : Nat) (h : I n s) :
    codeAny (model prog w) A (.compLoop (.ListComp elt [⟨target, iter, ifs, 0⟩] scope pos) 0 it acc env) R s := by
  refine codeAny_loop rfl I (fun n s hI => ?_) n h
  show wpAny _ A ((compTurn (.ListComp elt [⟨target, iter, ifs, 0⟩] scope pos) 0 it acc env).onRaise (fun x => do noteFrame x env; theTreesLotGoes x)) _ _ s
  refine wpAny_noted ?_
  rw [compTurn_list]
  refine wpAny_bind (wpAny_standAt (wpAny_bind (wpAny_mono (turn n s hI) (fun r s₁ h₁ => ?_) fun _ _ h' => h')))
  cases r with
  | none => exact wpAny_pure h₁
  | some v =>
    refine wpAny_bind (wpAny_mono h₁ (fun _ s₁' h₁' => ?_) fun _ _ h' => h')
    refine wpAny_bind (wpAny_mono h₁' (fun _ s₂ h₂ => wpAny_bind (wpAny_mono h₂ (fun ok s₃ h₃ => ?_) fun _ _ h' => h')) fun _ _ h' => h')
    cases ok with
    | false => exact wpAny_pure ⟨rfl, h₃⟩
    | true =>
      exact wpAny_bind (wpAny_bind (wpAny_mono h₃ (fun x s₄ h₄ => wpAny_bind (wpAny_mono h₄ (fun _ s₅ h₅ => wpAny_pure (wpAny_pure ⟨rfl, h₅⟩)) fun _ _ h' => h')) fun _ _ h' => h'))
section
variable {X : Cx}
def tLc (wi : TI) (g : TG) (tt : TT) (te : TE) (vs : List Nat) : TE := fun σ H Q => wi σ H fun J H1 => ∀ D, H1 D = none → ∃ W : Nat → Nat → Hp → Prop, (∃ m, W 0 m (upd H1 D (.lst []))) ∧ ∀ i m H, W i m H →
  (J.stop i H ∧ Q (.ref D) H) ∨ (J.go i H ∧ ∃ Nx : Hp → Prop, (∀ H', Nx H' → ∃ m', m' < m ∧ W (i + 1) m' H') ∧ ∀ x H', J.yld i H x H' → g x (wipe σ vs) H' fun σ2 H2 => wipe σ2 vs = wipe σ vs ∧ tt σ2 H2 fun b H3 =>
    if b = true then te σ2 H3 fun y H4 => ∃ acc, H4 D = some (.lst acc) ∧ acc.length < sizeLine ∧ Nx (upd H4 D (.lst (acc ++ [y]))) else Nx H3)
theorem lc_core {pins : List (Addr × Obj)} {s : Shared} {σ : St} {H : Hp} {Q : VK} {elt tg iter : Expr} {ifs : List Expr} {scope : Scope} {own : List (Str × Nat)} {pos pos' : Pos} {wi : TI} {g : TG} {tt : TT} {te : TE} {use : Option (Value → Sem Unit)} {Qf : Value → Shared → Prop}
    (hc : X.calm = true) (hN : X.N.Nodup) (I : Inv X pins σ H s) (hi : PI X tg iter wi) (ok : BlkOk X.N X.env.scope scope own)
    (hg : ∀ (s : Shared) (H : Hp) (C : Addr) (cl : List (Str × Addr)) (fp : List Addr), PG (X.blk s H scope (compEnvC scope cl C X.env) fp) tg g) (ht : ∀ (s : Shared) (H : Hp) (C : Addr) (cl : List (Str × Addr)) (fp : List Addr), PTs (X.blk s H scope (compEnvC scope cl C X.env) fp) ifs tt)
    (he : ∀ (s : Shared) (H : Hp) (C : Addr) (cl : List (Str × Addr)) (fp : List Addr), PE (X.blk s H scope (compEnvC scope cl C X.env) fp) elt te) (hs : ∀ x, foldedSetIterable iter X.env x = pure x)
    (h : tLc wi g tt te (own.map (·.2)) σ H Q)
    (hRR : ∀ D C s' m H', Inv X pins σ H' s' → Q (.ref D) H' → s'.heap.Ns C m → FpOk X pins H' C → compPost (model X.prog X.w) X.A X.xe use Qf (.ref D) C (.ok .next) s') :
    wpAny (model X.prog X.w) X.A (comprehension (.ListComp elt [⟨tg, iter, ifs, 0⟩] scope pos) scope X.env pos' (newList []) false (eval iter X.env) use) Qf X.xe s := by
  have hfree : ∀ y ∈ scope.names, y.2 = .free → ∃ c, X.env.cells.lookup y.1 = some c := fun y hy e => by
    rcases ok.free y hy e with k | k
    · exact I.ok.has _ (.inl k)
    · exact I.ok.has _ (.inr k)
  refine wpAny_comprehension_free (use := use) rfl hs (closure_ok hfree) ok.kind (fun y hy e => by rw [ok.uniq y hy, e])
    (thn (hi pins s σ H _ I h) fun xv s1 hx => thn hx fun itv s2 h2 => ?_)
  obtain ⟨it, fp, tn, J, H2, e, I2, T, st2, f2, q⟩ := h2
  subst e
  refine wpAny_newObj_type (newEnv_comp ?_) (by show 0 ≤ sizeLine; decide)
  generalize hD : s2.heap.objs.size = D
  have hDn : H2 D = none := I2.hok.fresh (Nat.le_of_eq hD)
  obtain ⟨W, ⟨m0, w0⟩, turn⟩ := q D hDn
  generalize hs3 : ({ s2 with heap := s2.heap.push { cls := .type "list", data := .seq ([] : List Value).toArray } } : Shared) = s3
  have I3 : Inv X pins σ (upd H2 D (.lst [])) s3 := by
    rw [← hs3]
    refine I2.laid (t' := s2.toks) (fun b o e => Heap.get?_push_of_some _ e) (Nat.le_of_eq hD) ⟨Nat.zero_le _, [], 0, .nil, ?_⟩
    rw [← hD]
    exact Heap.get?_push_size _ rfl
  have h3 : s3.heap = s2.heap.push { cls := .type "list", data := .seq ([] : List Value).toArray } := by rw [← hs3]
  have sz : ∀ b ∈ fp, b < s2.heap.objs.size := fun b hb => by
    obtain ⟨o, e, _⟩ := T.obj _ _ st2 b hb
    exact Heap.lt_size e
  have f3 : ∀ b ∈ fp, FpOk X pins (upd H2 D (.lst [])) b ∧ b < s3.heap.objs.size := fun b hb => by
    have hlt := sz b hb
    refine ⟨⟨?_, (f2 b hb).2⟩, by rw [h3, Heap.size_push]; exact Nat.lt_succ_of_lt hlt⟩
    rw [upd_ne (by rw [← hD]; exact Nat.ne_of_lt hlt)]
    exact (f2 b hb).1
  have st3 : tn 0 s3.heap := T.keep _ _ _ st2 fun b _ o e => by rw [h3]; exact Heap.get?_push_of_some _ e
  have I4 := block_start I3 ok hN f3
  have pg := hg s3 (upd H2 D (.lst [])) s3.heap.objs.size (cellsFrom (s3.heap.objs.size + 1) scope.names (cloFrom X.env.cells scope.names [])) fp
  have pt := ht s3 (upd H2 D (.lst [])) s3.heap.objs.size (cellsFrom (s3.heap.objs.size + 1) scope.names (cloFrom X.env.cells scope.names [])) fp
  have pe := he s3 (upd H2 D (.lst [])) s3.heap.objs.size (cellsFrom (s3.heap.objs.size + 1) scope.names (cloFrom X.env.cells scope.names [])) fp
  show codeAny _ _ (.compStart (.ListComp elt [⟨tg, iter, ifs, 0⟩] scope pos) 0 (.ref it) (.ref D) (compEnvC scope (cellsFrom (s3.heap.objs.size + 1) scope.names (cloFrom X.env.cells scope.names [])) s3.heap.objs.size X.env)) (compPost (model X.prog X.w) X.A X.xe use Qf (.ref D) s3.heap.objs.size) { s3 with heap := pushCells (s3.heap.push { cls := .type "dict", data := .dict #[] }) scope.names }
  have nfp : ∀ b ∈ fp, (upd H2 D (.lst [])) b = none := fun b hb => (f3 b hb).1.1
  generalize hce : compEnvC scope (cellsFrom (s3.heap.objs.size + 1) scope.names (cloFrom X.env.cells scope.names [])) s3.heap.objs.size X.env = ce at I4 pg pt pe ⊢
  have cL : ce.locals = s3.heap.objs.size := by subst hce; rfl
  generalize hH3 : upd H2 D (.lst []) = H3 at I3 I4 pg pt pe w0 nfp f3
  generalize hs4 : ({ s3 with heap := pushCells (s3.heap.push { cls := .type "dict", data := .dict #[] }) scope.names } : Shared) = s4 at I4 ⊢
  have st4 : tn 0 s4.heap := T.keep _ _ _ st3 fun b _ o e => by rw [← hs4]; exact pushCells_keeps _ _ _ _ (Heap.get?_push_of_some _ e)
  have stat : ∀ {σ' : St} {H' : Hp} {s' : Shared}, Inv (X.blk s3 H3 scope ce fp) [] σ' H' s' → (∀ b ∈ fp, H' b = none) → ∀ b ∈ fp, FpOk (X.blk s3 H3 scope ce fp) [] H' b := fun {σ' H' s'} I' hn b hb =>
    ⟨hn b hb, (I'.ok.exf b hb).1, I'.ok.exfs b hb, .inl hb, fun x c e => (I'.ok.exf b hb).2 x c e, fun p hp => absurd (show p ∈ ([] : List (Addr × Obj)) ++ [] from hp) (by simp)⟩
  have loop : codeAny (model X.prog X.w) X.A (.compLoop (.ListComp elt [⟨tg, iter, ifs, 0⟩] scope pos) 0 (.ref it) (.ref D) ce) (compPost (model X.prog X.w) X.A X.xe use Qf (.ref D) s3.heap.objs.size) s4 := by
    refine compLoop_any (fun n s' => ∃ i H', Inv (X.blk s3 H3 scope ce fp) [] (wipe σ (own.map (·.2))) H' s' ∧ tn i s'.heap ∧ (∀ b ∈ fp, H' b = none) ∧ W i n H') ?_ m0 ⟨0, H3, I4, st4, nfp, w0⟩
    rintro n s5 ⟨i, H5, I5, st5, n5, w5⟩
    rcases turn i n H5 w5 with ⟨stop, qq⟩ | ⟨go, Nx, hNx, step⟩
    · have td := T.done (X.blk s3 H3 scope ce fp) rfl rfl rfl hc i [] s5 _ H5 (fun _ _ => False) I5 (stat I5 n5) st5 stop
      refine thnF td fun r s6 ⟨hr, I6⟩ => ?_
      subst hr
      have I7 : Inv X pins σ H5 s6 := I3.call' (ch := fp) I6.os I6.base I6.hok I6.bare fun b hb => ⟨(f3 b hb).1.2.2.2.1, (f3 b hb).1.2.1, (f3 b hb).1.2.2.2.2.1, (f3 b hb).1.2.2.2.2.2⟩
      have nC : H5 s3.heap.objs.size = none := by
        have z : H5 ce.locals = none := I6.free
        rw [cL] at z
        exact z
      obtain ⟨m, hn, _⟩ := I6.loc
      have hn : s6.heap.Ns ce.locals m := hn
      rw [cL] at hn
      exact hRR D s3.heap.objs.size s6 m H5 I7 qq hn (I3.fpOk (Nat.le_refl _) nC)
    · have ti := T.item (X.blk s3 H3 scope ce fp) rfl rfl rfl hc i [] s5 _ H5 (fun _ _ => False) I5 (stat I5 n5) st5 go
      refine thnF ti fun r s6 ⟨u, hr, h6⟩ => ?_
      subst hr
      refine thnF h6 fun _ s7 ⟨x, H7, I7, r7, y7, st7, n7⟩ => ?_
      have I7' := I7.pinned (stat I7 n7) (T.obj _ _ st7)
      refine thnF (pg _ s7 _ H7 x u _ I7' r7 (step x H7 y7)) fun _ s8 ⟨σ8, H8, I8, hw8, q8⟩ => ?_
      refine thnF (pt _ s8 σ8 H8 _ I8 q8) fun b s9 ⟨H9, I9, q9⟩ => ?_
      have fin : ∀ {s' : Shared} {H' : Hp}, Inv (X.blk s3 H3 scope ce fp) ([] ++ pinsAt fp s7.heap) σ8 H' s' → Nx H' → ∃ m, m < n ∧ ∃ i H', Inv (X.blk s3 H3 scope ce fp) [] (wipe σ (own.map (·.2))) H' s' ∧ tn i s'.heap ∧ (∀ b ∈ fp, H' b = none) ∧ W i m H' := fun {s' H'} I' nx => by
        obtain ⟨m', hm, w'⟩ := hNx H' nx
        have pin' : ∀ b ∈ fp, ∀ o, s7.heap.get? b = some o → s'.heap.get? b = some o ∧ H' b = none := fun b hb o e =>
          let z := I'.pin (b, o) (List.mem_append_right _ (List.mem_append_right _ (mem_pinsAt hb e)))
          ⟨z.1, z.2.1⟩
        have hl : (wipe σ (own.map (·.2))).length = σ8.length := by rw [← hw8, wipe_length]
        refine ⟨m', hm, i + 1, H', (I'.unpinned (pins := [])).weak hl (fun j v e => ?_), T.keep _ _ _ st7 fun b hb o e => (pin' b hb o e).1, fun b hb => ?_, w'⟩
        · rw [← hw8] at e
          exact (wipe_some e).1
        · obtain ⟨o, e, _⟩ := T.obj _ _ st7 b hb
          exact (pin' b hb o e).2
      cases b with
      | false =>
        simp only [Bool.false_eq_true, if_false] at q9 ⊢
        exact fin I9 q9
      | true =>
        simp only [if_true] at q9 ⊢
        refine thnF (pe _ s9 σ8 H9 _ I9 q9) fun z s10 ⟨yv, H10, I10, r10, acc, hD10, hz10, nx⟩ => ?_
        exact app_ok (X := X.blk s3 H3 scope ce fp) I10 hD10 hz10 r10 fun s11 I11 => fin I11 nx
  exact codeAny_compStart_list loop (T.self X.A 0 _ _ _ st4 loop)
theorem pe_lc {elt tg iter : Expr} {ifs : List Expr} {scope : Scope} {own : List (Str × Nat)} {pos : Pos} {wi : TI} {g : TG} {tt : TT} {te : TE} (hc : X.calm = true) (hN : X.N.Nodup) (hi : PI X tg iter wi) (ok : BlkOk X.N X.env.scope scope own)
    (hg : ∀ (s : Shared) (H : Hp) (C : Addr) (cl : List (Str × Addr)) (fp : List Addr), PG (X.blk s H scope (compEnvC scope cl C X.env) fp) tg g) (ht : ∀ (s : Shared) (H : Hp) (C : Addr) (cl : List (Str × Addr)) (fp : List Addr), PTs (X.blk s H scope (compEnvC scope cl C X.env) fp) ifs tt)
    (he : ∀ (s : Shared) (H : Hp) (C : Addr) (cl : List (Str × Addr)) (fp : List Addr), PE (X.blk s H scope (compEnvC scope cl C X.env) fp) elt te) (hs : ∀ x, foldedSetIterable iter X.env x = pure x := by intro _; rfl) :
    PE X (.ListComp elt [⟨tg, iter, ifs, 0⟩] scope pos) (tLc wi g tt te (own.map (·.2))) := by
  intro pins s σ H Q I h
  rw [eval_ListComp]
  refine lc_core hc hN I hi ok hg ht he hs h fun D C s' m H' I' q hn f => ⟨m, hn, fun h'' sb => ?_⟩
  obtain ⟨f0, f1, f2, f3, f4, f5⟩ := f
  exact ⟨.ref D, H', I'.turned (t' := s'.toks) (fun b o hb e => (sb.2 b hb).trans e) f0 f1 f3 f4 f5, rfl, q⟩
theorem ps_setLc {i : Nat} {y : Str} {py : Pos} {elt tg iter : Expr} {ifs : List Expr} {scope : Scope} {own : List (Str × Nat)} {pos spos : Pos} {wi : TI} {g : TG} {tt : TT} {te : TE} (hc : X.calm = true) (hN : X.N.Nodup) (hy : X.N[i]? = some y) (hyl : X.env.scope.names.lookup y = some .local)
    (hsw : swapsWith (.ListComp elt [⟨tg, iter, ifs, 0⟩] scope pos) (some (.Name y py)) spos.line X.env = pure true) (hi : PI X tg iter wi) (ok : BlkOk X.N X.env.scope scope own)
    (hg : ∀ (s : Shared) (H : Hp) (C : Addr) (cl : List (Str × Addr)) (fp : List Addr), PG (X.blk s H scope (compEnvC scope cl C X.env) fp) tg g) (ht : ∀ (s : Shared) (H : Hp) (C : Addr) (cl : List (Str × Addr)) (fp : List Addr), PTs (X.blk s H scope (compEnvC scope cl C X.env) fp) ifs tt)
    (he : ∀ (s : Shared) (H : Hp) (C : Addr) (cl : List (Str × Addr)) (fp : List Addr), PE (X.blk s H scope (compEnvC scope cl C X.env) fp) elt te) (hs : ∀ x, foldedSetIterable iter X.env x = pure x := by intro _; rfl) :
    PS X (.Assign [.Name y py] (.ListComp elt [⟨tg, iter, ifs, 0⟩] scope pos) spos) (tAsg (tLc wi g tt te (own.map (·.2))) (gName i)) := by
  intro pins s σ H D I h
  rw [exec_Assign_Name_used _ _ _ _ hsw]
  refine wpAny_bind (wpAny_standAt (wpAny_bind ?_))
  show wpAny _ X.A (do let _ ← comprehension (.ListComp elt [⟨tg, iter, ifs, 0⟩] scope pos) scope X.env (firstIterPos [⟨tg, iter, ifs, 0⟩] pos) (newList []) false (eval iter X.env) (some (assign (.Name y py) X.env))) _ _ s
  have h : tLc wi g tt te (own.map (·.2)) σ H (fun x H1 => gName i x σ H1 D.nx) := h
  refine wpAny_bind (thn (lc_core (Qf := fun _ s' => SP X pins D .next s') hc hN I hi ok hg ht he hs h fun L C s' m H' I' q hn f => ?_) fun _ s' hq => wpAny_pure (wpAny_pure hq))
  show wpAny _ _ (assign (.Name y py) X.env (.ref L)) _ _ _
  refine wpAny_assign_Name (store_ok2 (v := V.ref L) I' hN hy (.inl hyl) rfl (fun s2 I2 ⟨a, sb, ha⟩ => ?_) (.inr hyl))
  obtain ⟨f0, f1, f2, f3, f4, f5⟩ := f
  have haC : C ≠ a := by
    rcases ha with z | z
    · rw [z]; exact f1
    · exact fun e => f4 y a z e.symm
  refine ⟨m, hn.sameBut sb haC, fun h3 sb3 => ?_⟩
  exact ⟨_, H', I2.turned (t' := s2.toks) (fun b o hb e => (sb3.2 b hb).trans e) f0 f1 f3 f4 f5, q⟩
theorem sw_true {elt : Expr} {gs : List Comprehension} {scope : Scope} {pos py : Pos} {y : Str} {l : Nat} {env : Env} (hk : env.scope.kind = .function) (hy : env.scope.names.lookup y = some .local) (hl : (py.line == pos.line) = true)
    (ha : (scope.names.any fun (n, k) => n == y && (k == .local || k == .cell)) = false) : swapsWith (.ListComp elt gs scope pos) (some (.Name y py)) l env = pure true := by
  have ky : env.kindOf y = some .local := hy
  have hb : env.blockKind = .function := by unfold Env.blockKind; rw [hk]; rfl
  unfold swapsWith
  simp only [hb, ky, ha, Expr.pos, hl]
  rfl
end
theorem lc_range {lo : Int} {n : Nat} {g : TG} {tt : TT} {te : TE} {vs : List Nat} {σ : St} {H1 : Hp} {D : Addr} {Qd : Hp → Prop} (Pv : Nat → Hp → Prop) (h0 : Pv 0 (upd H1 D (.lst [])))
    (hs : ∀ i H, i < n → Pv i H → g (.int (lo + i)) (wipe σ vs) H fun σ2 H2 => wipe σ2 vs = wipe σ vs ∧ tt σ2 H2 fun b H3 =>
      if b = true then te σ2 H3 fun y H4 => ∃ acc, H4 D = some (.lst acc) ∧ acc.length < sizeLine ∧ Pv (i + 1) (upd H4 D (.lst (acc ++ [y]))) else Pv (i + 1) H3) (hd : ∀ H, Pv n H → Qd H) :
    ∃ W : Nat → Nat → Hp → Prop, (∃ m, W 0 m (upd H1 D (.lst []))) ∧ ∀ i m H, W i m H →
      ((Itr lo n).stop i H ∧ Qd H) ∨ ((Itr lo n).go i H ∧ ∃ Nx : Hp → Prop, (∀ H', Nx H' → ∃ m', m' < m ∧ W (i + 1) m' H') ∧ ∀ x H', (Itr lo n).yld i H x H' → g x (wipe σ vs) H' fun σ2 H2 => wipe σ2 vs = wipe σ vs ∧ tt σ2 H2 fun b H3 =>
        if b = true then te σ2 H3 fun y H4 => ∃ acc, H4 D = some (.lst acc) ∧ acc.length < sizeLine ∧ Nx (upd H4 D (.lst (acc ++ [y]))) else Nx H3) := by
  refine ⟨fun i m H => m = n - i ∧ i ≤ n ∧ Pv i H, ⟨n, by simp, Nat.zero_le _, h0⟩, ?_⟩
  rintro i m H ⟨rfl, hi, p⟩
  by_cases hlt : i < n
  · refine .inr ⟨hlt, Pv (i + 1), fun H' p' => ⟨n - (i + 1), by omega, rfl, hlt, p'⟩, fun x H' y => ?_⟩
    obtain ⟨e, y⟩ := y
    subst e y
    exact hs i _ hlt p
  · have e : i = n := by omega
    subst e
    exact .inl ⟨Nat.le_refl _, hd H p⟩
theorem lc_list {K : PySem.W.Frag} {a : Addr} {xs : List V} {g : TG} {tt : TT} {te : TE} {vs : List Nat} {σ : St} {H1 : Hp} {D : Addr} {Qd : Hp → Prop} (Pv : Nat → Hp → Prop) (h0 : Pv 0 (upd H1 D (.lst []))) (hl : ∀ i H, i ≤ xs.length → Pv i H → SqL K H a xs)
    (hs : ∀ i x H, xs[i]? = some x → Pv i H → g x (wipe σ vs) H fun σ2 H2 => wipe σ2 vs = wipe σ vs ∧ tt σ2 H2 fun b H3 =>
      if b = true then te σ2 H3 fun y H4 => ∃ acc, H4 D = some (.lst acc) ∧ acc.length < sizeLine ∧ Pv (i + 1) (upd H4 D (.lst (acc ++ [y]))) else Pv (i + 1) H3) (hd : ∀ H, Pv xs.length H → Qd H) :
    ∃ W : Nat → Nat → Hp → Prop, (∃ m, W 0 m (upd H1 D (.lst []))) ∧ ∀ i m H, W i m H →
      ((Itl K a).stop i H ∧ Qd H) ∨ ((Itl K a).go i H ∧ ∃ Nx : Hp → Prop, (∀ H', Nx H' → ∃ m', m' < m ∧ W (i + 1) m' H') ∧ ∀ x H', (Itl K a).yld i H x H' → g x (wipe σ vs) H' fun σ2 H2 => wipe σ2 vs = wipe σ vs ∧ tt σ2 H2 fun b H3 =>
        if b = true then te σ2 H3 fun y H4 => ∃ acc, H4 D = some (.lst acc) ∧ acc.length < sizeLine ∧ Nx (upd H4 D (.lst (acc ++ [y]))) else Nx H3) := by
  refine ⟨fun i m H => m = xs.length - i ∧ i ≤ xs.length ∧ Pv i H, ⟨xs.length, by simp, Nat.zero_le _, h0⟩, ?_⟩
  rintro i m H ⟨rfl, hi, p⟩
  have q := hl i H hi p
  by_cases hlt : i < xs.length
  · refine .inr ⟨⟨xs, xs[i], q, by simp [hlt]⟩, Pv (i + 1), fun H' p' => ⟨xs.length - (i + 1), by omega, rfl, hlt, p'⟩, fun x H' y => ?_⟩
    obtain ⟨e, y⟩ := y
    subst e
    exact hs i x _ (y xs q) p
  · have e : i = xs.length := by omega
    subst e
    exact .inl ⟨⟨xs, q, Nat.le_refl _⟩, hd H p⟩
def blkC (N : List Str) (sc scope : Scope) (own : List (Str × Nat)) : Bool :=
  (match scope.kind with | .function => true | _ => false) && (scope.names.all fun y => decide (scope.names.lookup y.1 = some y.2)) && (own.all fun p => decide (N[p.2]? = some p.1)) &&
    (scope.names.all fun y => match y.2 with
      | .free => (match sc.names.lookup y.1 with | some .cell => true | some .free => true | _ => false)
      | .local => decide (y.1 ∈ own.map (·.1)) || decide (y.1 ∉ N)
      | .cell => decide (y.1 ∈ own.map (·.1)) || decide (y.1 ∉ N)
      | _ => true)
theorem blkOk_by {N : List Str} {sc scope : Scope} {own : List (Str × Nat)} (h : blkC N sc scope own = true) : BlkOk N sc scope own := by
  unfold blkC at h
  simp only [Bool.and_eq_true, List.all_eq_true, decide_eq_true_eq] at h
  obtain ⟨⟨⟨h1, h2⟩, h3⟩, h4⟩ := h
  refine ⟨?_, h2, h3, fun y hy e => ?_, fun y hy e => ?_⟩
  · split at h1
    · assumption
    · cases h1
  · have q := h4 y hy
    simp only [e] at q
    split at q <;> first | exact .inl (by assumption) | exact .inr (by assumption) | cases q
  · have q := h4 y hy
    rcases e with e | e <;> (simp only [e, Bool.or_eq_true, decide_eq_true_eq] at q; exact q)
end L2
namespace L2
open PySem PySem.Spec PyProof.Rows
end L2
namespace L2
open PySem PySem.Spec PyProof.Rows
section
variable {κ : Type} [DecidableEq κ]
def valV (kvs : List (κ × V)) (k : κ) : Option V := (kvs.find? fun kv => decide (kv.1 = k)).map (·.2)
def putK (kvs : List (κ × V)) (k : κ) (v : V) : List (κ × V) :=
  if (kvs.any fun kv => decide (kv.1 = k)) = true then kvs.map (fun kv => if kv.1 = k then (kv.1, v) else kv) else kvs ++ [(k, v)]
def dropK (kvs : List (κ × V)) (k : κ) : List (κ × V) := kvs.filter fun kv => decide (kv.1 ≠ k)
theorem valV_pos {p : κ × V} {r : List (κ × V)} {k : κ} (e : p.1 = k) : valV (p :: r) k = some p.2 := by simp [valV, List.find?_cons, e]
theorem valV_neg {p : κ × V} {r : List (κ × V)} {k : κ} (e : ¬ p.1 = k) : valV (p :: r) k = valV r k := by simp [valV, List.find?_cons, e]
theorem valV_any (k : κ) : ∀ kvs : List (κ × V), (kvs.any fun kv => decide (kv.1 = k)) = (valV kvs k).isSome
  | [] => rfl
  | p :: r => by
    rw [List.any_cons]
    by_cases e : p.1 = k
    · simp only [valV_pos e, decide_eq_true e, Bool.true_or, Option.isSome_some]
    · rw [valV_neg e, decide_eq_false e, Bool.false_or]; exact valV_any k r
theorem valV_map (k j : κ) (y : V) : ∀ kvs : List (κ × V), valV (kvs.map fun kv => if kv.1 = k then (kv.1, y) else kv) j = (valV kvs j).map fun x => if j = k then y else x
  | [] => rfl
  | p :: r => by
    have ih := valV_map k j y r
    rw [List.map_cons]
    by_cases h : p.1 = k
    · rw [if_pos h]
      by_cases e : p.1 = j
      · rw [valV_pos (p := (p.1, y)) e, valV_pos e, Option.map_some, if_pos (e.symm.trans h)]
      · rw [valV_neg (p := (p.1, y)) e, valV_neg e, ih]
    · rw [if_neg h]
      by_cases e : p.1 = j
      · rw [valV_pos (p := p) e, valV_pos e, Option.map_some, if_neg (fun z => h (e.trans z))]
      · rw [valV_neg (p := p) e, valV_neg e, ih]
theorem valV_snoc (k j : κ) (y : V) : ∀ kvs : List (κ × V), valV kvs k = none → valV (kvs ++ [(k, y)]) j = if j = k then some y else valV kvs j
  | [], _ => by
    by_cases e : k = j
    · rw [if_pos e.symm]; exact valV_pos (p := (k, y)) e
    · rw [if_neg (fun z => e z.symm)]; exact valV_neg (p := (k, y)) e
  | p :: r, hn => by
    rw [List.cons_append]
    have hk : ¬ p.1 = k := fun z => by rw [valV_pos z] at hn; cases hn
    rw [valV_neg hk] at hn
    have ih := valV_snoc k j y r hn
    by_cases e : p.1 = j
    · rw [valV_pos e, valV_pos e, if_neg (fun z => hk (e.trans z))]
    · rw [valV_neg e, valV_neg e, ih]
theorem valV_put (kvs : List (κ × V)) (k j : κ) (y : V) : valV (putK kvs k y) j = if j = k then some y else valV kvs j := by
  unfold putK
  by_cases a : (kvs.any fun kv => decide (kv.1 = k)) = true
  · rw [if_pos a, valV_map]
    rw [valV_any] at a
    by_cases e : j = k
    · obtain ⟨x, hx⟩ := Option.isSome_iff_exists.mp a
      rw [if_pos e, e, hx, Option.map_some, if_pos rfl]
    · rw [if_neg e]
      cases valV kvs j with
      | none => rfl
      | some x => rw [Option.map_some, if_neg e]
  · rw [if_neg a]
    refine valV_snoc k j y kvs ?_
    rw [valV_any] at a
    cases q : valV kvs k with
    | none => rfl
    | some x => rw [q] at a; exact (a rfl).elim
theorem length_putK (kvs : List (κ × V)) (k : κ) (v : V) : (putK kvs k v).length ≤ kvs.length + 1 := by
  unfold putK
  split
  · rw [List.length_map]; omega
  · rw [List.length_append, List.length_cons, List.length_nil]; omega
theorem RelO.isSome_eq {o : Option V} {u : Option Value} (r : RelO o u) : o.isSome = u.isSome := by
  cases o with
  | none => cases u with
    | none => rfl
    | some _ => exact (show False from r).elim
  | some _ => cases u with
    | none => exact (show False from r).elim
    | some _ => rfl
theorem RelO.getD {o : Option V} {u : Option Value} {d : V} {d' : Value} (r : RelO o u) (rd : RelV d d') : RelV (o.getD d) (u.getD d') := by
  cases o with
  | none => cases u with
    | none => exact rd
    | some _ => exact (show False from r).elim
  | some _ => cases u with
    | none => exact (show False from r).elim
    | some _ => exact r
theorem KV.val {kvs : List (κ × V)} {vs : List (κ × Value)} (r : KV kvs vs) (k : κ) : RelO (valV kvs k) (valueAt vs k) := by
  unfold KV at r
  induction r with
  | nil => exact True.intro
  | @cons p q ps qs h t ih =>
    obtain ⟨h1, h2⟩ := h
    by_cases e : p.1 = k
    · have e' : q.1 = k := h1.symm.trans e
      have b : valueAt (q :: qs) k = some q.2 := by simp [valueAt, List.find?_cons, e']
      rw [valV_pos e, b]; exact h2
    · have e' : ¬ q.1 = k := fun z => e (h1.trans z)
      have b : valueAt (q :: qs) k = valueAt qs k := by simp [valueAt, List.find?_cons, e']
      rw [valV_neg e, b]; exact ih
theorem KV.any {kvs : List (κ × V)} {vs : List (κ × Value)} (r : KV kvs vs) (k : κ) : (kvs.any fun kv => decide (kv.1 = k)) = vs.any fun kv => decide (kv.1 = k) := by
  unfold KV at r
  induction r with
  | nil => rfl
  | cons h t ih => rw [List.any_cons, List.any_cons, ih, h.1]
theorem KV.repl {kvs : List (κ × V)} {vs : List (κ × Value)} (r : KV kvs vs) (k : κ) {y : V} {u : Value} (ry : RelV y u) :
    KV (kvs.map fun kv => if kv.1 = k then (kv.1, y) else kv) (vs.map fun kv => if kv.1 = k then (kv.1, u) else kv) := by
  unfold KV at r ⊢
  induction r with
  | nil => exact .nil
  | @cons p q ps qs h t ih =>
    rw [List.map_cons, List.map_cons]
    refine .cons ?_ ih
    obtain ⟨h1, h2⟩ := h
    by_cases e : p.1 = k
    · rw [if_pos e, if_pos (h1.symm.trans e)]; exact ⟨h1, ry⟩
    · rw [if_neg e, if_neg (fun z => e (h1.trans z))]; exact ⟨h1, h2⟩
theorem KV.put {kvs : List (κ × V)} {vs : List (κ × Value)} (r : KV kvs vs) (k : κ) {y : V} {u : Value} (ry : RelV y u) : KV (putK kvs k y) (stored vs k u) := by
  unfold putK stored
  rw [r.any k]
  by_cases e : (vs.any fun kv => decide (kv.1 = k)) = true
  · rw [if_pos e, if_pos e]; exact r.repl k ry
  · rw [if_neg e, if_neg e]; exact Paired.snoc r ⟨rfl, ry⟩
theorem KV.drop {kvs : List (κ × V)} {vs : List (κ × Value)} (r : KV kvs vs) (k : κ) : KV (dropK kvs k) (without vs k) := by
  unfold KV at r ⊢
  unfold dropK without
  induction r with
  | nil => exact .nil
  | @cons p q ps qs h t ih =>
    obtain ⟨h1, h2⟩ := h
    rw [List.filter_cons, List.filter_cons]
    by_cases e : p.1 = k
    · have a : ¬ decide (p.1 ≠ k) = true := by simp [e]
      have b : ¬ decide (q.1 ≠ k) = true := by simp [h1.symm.trans e]
      rw [if_neg a, if_neg b]; exact ih
    · have e' : ¬ q.1 = k := fun z => e (h1.trans z)
      have a : decide (p.1 ≠ k) = true := by simp [e]
      have b : decide (q.1 ≠ k) = true := by simp [e']
      rw [if_pos a, if_pos b]; exact .cons ⟨h1, h2⟩ ih
theorem KV.keys {kvs : List (κ × V)} {vs : List (κ × Value)} (r : KV kvs vs) : kvs.map (·.1) = vs.map (·.1) := by
  unfold KV at r
  induction r with
  | nil => rfl
  | cons h t ih => rw [List.map_cons, List.map_cons, ih, h.1]
theorem KV.length {kvs : List (κ × V)} {vs : List (κ × Value)} (r : KV kvs vs) : kvs.length = vs.length := Paired.length r
end
theorem kV_is {P : Program} {w : World} {k : Key} {u : Value} (r : RelV (kV k) u) : (mixKind P w).is k u = true := by
  cases k with
  | inl i => obtain ⟨t, e⟩ := (show ∃ t, u = Value.int i t from r); subst e; exact mixKind_int P w i t
  | inr x => obtain ⟨t, e⟩ := (show ∃ t, u = Value.str x t from r); subst e; exact mixKind_str P w x t
theorem items_are {P : Program} {w : World} : ∀ {ks : List Key} {us : List Value}, Vals (ks.map kV) us → ItemsAre (mixKind P w) ks us
  | [], _, r => by rw [List.map_nil] at r; cases r; exact .nil
  | k :: ks, _, r => by
    rw [List.map_cons] at r
    cases r with
    | cons h t => exact .cons (kV_is h) (items_are t)
abbrev KT (H : Hp) : List (List Key × V) → List (List Key × Addr × Value) → Prop := Paired fun p q => p.1 = q.1 ∧ H q.2.1 = some (.tup (p.1.map kV)) ∧ RelV p.2 q.2.2
theorem KT.val {H : Hp} {kvs : List (List Key × V)} {xs : List (List Key × Addr × Value)} (r : KT H kvs xs) (k : List Key) : RelO (valV kvs k) ((atKey xs k).map (·.2)) := by
  induction r with
  | nil => exact True.intro
  | @cons p q ps qs h t ih =>
    obtain ⟨h1, _, h2⟩ := h
    by_cases e : p.1 = k
    · have e' : q.1 = k := h1.symm.trans e
      have b : atKey (q :: qs) k = some q.2 := by simp [atKey, List.find?_cons, e']
      rw [valV_pos e, b]; exact h2
    · have e' : ¬ q.1 = k := fun z => e (h1.trans z)
      have b : atKey (q :: qs) k = atKey qs k := by simp [atKey, List.find?_cons, e']
      rw [valV_neg e, b]; exact ih
theorem KT.repl {H : Hp} {kvs : List (List Key × V)} {xs : List (List Key × Addr × Value)} (r : KT H kvs xs) (k : List Key) {y : V} {u : Value} (ry : RelV y u) :
    KT H (kvs.map fun kv => if kv.1 = k then (kv.1, y) else kv) (xs.map (putAt k u)) := by
  induction r with
  | nil => exact .nil
  | @cons p q ps qs h t ih =>
    rw [List.map_cons, List.map_cons]
    refine .cons ?_ ih
    obtain ⟨h1, h2, h3⟩ := h
    unfold putAt
    by_cases e : p.1 = k
    · rw [if_pos e, if_pos (h1.symm.trans e)]; exact ⟨h1, h2, ry⟩
    · rw [if_neg e, if_neg (fun z => e (h1.trans z))]; exact ⟨h1, h2, h3⟩
theorem KT.put {H : Hp} {kvs : List (List Key × V)} {xs : List (List Key × Addr × Value)} (r : KT H kvs xs) (k : List Key) {b : Addr} {y : V} {u : Value} (hb : H b = some (.tup (k.map kV))) (ry : RelV y u) :
    KT H (putK kvs k y) (storedH xs k b u) := by
  have e : (kvs.any fun kv => decide (kv.1 = k)) = (atKey xs k).isSome := by
    rw [valV_any, (r.val k).isSome_eq, Option.isSome_map]
  unfold putK storedH
  rw [e]
  by_cases q : (atKey xs k).isSome = true
  · rw [if_pos q, if_pos q]; exact r.repl k ry
  · rw [if_neg q, if_neg q]; exact Paired.snoc r ⟨rfl, hb, ry⟩
theorem KT.keeps {H H' : Hp} {kvs : List (List Key × V)} {xs : List (List Key × Addr × Value)} (r : KT H kvs xs) (ht : ∀ b ys, H b = some (.tup ys) → H' b = some (.tup ys)) : KT H' kvs xs :=
  Paired.mapP r fun _ _ z => ⟨z.1, ht _ _ z.2.1, z.2.2⟩
section
variable {P : Program} {w : World} {H : Hp} {h : Heap} {a : Addr}
theorem rd_of {u : HO} (ok : HOk P w H h) (e : Rd H a u) : ObjOk P w H h a u := e.ok ok
theorem dk_rd {kvs : List (Key × V)} (ok : HOk P w H h) (e : Rd H a (.dK kvs)) : kvs.length ≤ sizeLine ∧ (a == sysModules) = false ∧ ∃ vs, KV kvs vs ∧ h.DictOf (mixKind P w) a vs :=
  show ObjOk P w H h a (.dK kvs) from rd_of ok e
theorem dk_of {kvs : List (Key × V)} (ok : HOk P w H h) (e : H a = some (.dK kvs)) : kvs.length ≤ sizeLine ∧ (a == sysModules) = false ∧ ∃ vs, KV kvs vs ∧ h.DictOf (mixKind P w) a vs := dk_rd ok (.inl e)
theorem key_of {ks : List Key} (ok : HOk P w H h) (e : H a = some (.tup (ks.map kV))) : (tupleKind (mixKind P w)).is h ks a := by
  obtain ⟨_, its, r, o, h1, h2, n, h3⟩ := (show ObjOk P w H h a (.tup (ks.map kV)) from ok a _ e)
  exact ⟨o, its.toArray, n, h1, h2, h3, by simpa using items_are r⟩
theorem dt_rd {kvs : List (List Key × V)} (ok : HOk P w H h) (e : Rd H a (.dT kvs)) : kvs.length ≤ sizeLine ∧ (a == sysModules) = false ∧
    ∃ xs, KT H kvs xs ∧ h.DictOfH (tupleKind (mixKind P w)) a xs := by
  obtain ⟨z, y, xs, r, o, es, ep, h1, h2, h3, h4, h5⟩ := (show ObjOk P w H h a (.dT kvs) from rd_of ok e)
  refine ⟨z, y, xs, r, o, es, ep, h1, h2, h3, h4, fun x hx => ?_, h5⟩
  have all : ∀ {l : List (List Key × V)} {m : List (List Key × Addr × Value)}, KT H l m → ∀ x ∈ m, (tupleKind (mixKind P w)).is h x.1 x.2.1 := by
    intro l m q
    induction q with
    | nil => intro x hx; exact nomatch hx
    | @cons p q ps qs hq t ih =>
      intro x hx
      rcases List.mem_cons.mp hx with e | hx
      · subst e
        exact key_of ok (by rw [← hq.1]; exact hq.2.1)
      · exact ih x hx
  exact all r x hx
theorem dt_of {kvs : List (List Key × V)} (ok : HOk P w H h) (e : H a = some (.dT kvs)) : kvs.length ≤ sizeLine ∧ (a == sysModules) = false ∧
    ∃ xs, KT H kvs xs ∧ h.DictOfH (tupleKind (mixKind P w)) a xs := dt_rd ok (.inl e)
end
def DGet (H : Hp) (a : Addr) (y : V) (r : Option V) : Prop :=
  (∃ kvs k, Rd H a (.dK kvs) ∧ y = kV k ∧ r = valV kvs k) ∨ ∃ kvs k b, Rd H a (.dT kvs) ∧ y = .ref b ∧ H b = some (.tup (k.map kV)) ∧ r = valV kvs k
def DPut (H : Hp) (a : Addr) (y v : V) (H' : Hp) : Prop :=
  (∃ kvs k, H a = some (.dK kvs) ∧ y = kV k ∧ kvs.length < sizeLine ∧ H' = upd H a (.dK (putK kvs k v))) ∨
  ∃ kvs k b, H a = some (.dT kvs) ∧ y = .ref b ∧ H b = some (.tup (k.map kV)) ∧ kvs.length < sizeLine ∧ H' = upd H a (.dT (putK kvs k v))
theorem DGet.k {H : Hp} {a : Addr} {kvs : List (Key × V)} {k : Key} (e : H a = some (.dK kvs)) : DGet H a (kV k) (valV kvs k) := .inl ⟨kvs, k, .inl e, rfl, rfl⟩
theorem DGet.t {H : Hp} {a b : Addr} {kvs : List (List Key × V)} {k : List Key} (e : H a = some (.dT kvs)) (eb : H b = some (.tup (k.map kV))) : DGet H a (.ref b) (valV kvs k) := .inr ⟨kvs, k, b, .inl e, rfl, eb, rfl⟩
theorem DPut.k {H : Hp} {a : Addr} {kvs : List (Key × V)} {k : Key} {v : V} (e : H a = some (.dK kvs)) (hl : kvs.length < sizeLine) : DPut H a (kV k) v (upd H a (.dK (putK kvs k v))) := .inl ⟨kvs, k, e, rfl, hl, rfl⟩
theorem DPut.t {H : Hp} {a b : Addr} {kvs : List (List Key × V)} {k : List Key} {v : V} (e : H a = some (.dT kvs)) (eb : H b = some (.tup (k.map kV))) (hl : kvs.length < sizeLine) :
    DPut H a (.ref b) v (upd H a (.dT (putK kvs k v))) := .inr ⟨kvs, k, b, e, rfl, eb, hl, rfl⟩
section
variable {X : Cx} {pins : List (Addr × Obj)} {σ : St} {H : Hp} {s : Shared} {a : Addr} {y v : V} {u r : Value} {o : Option V} {A : Around} {E : Value → Shared → Prop}
theorem Inv.big (I : Inv X pins σ H s) : sysModules < s.heap.objs.size := by
  have h : mainGlobals < s.heap.objs.size := (I.mod.glob.keeps I.bk).lt
  exact Nat.lt_trans (by decide) h
theorem d_getItem {Q : Value → Shared → Prop} (hu : A.units + 1 < cLine) (I : Inv X pins σ H s) (g : DGet H a y (some v)) (ry : RelV y u) (h : ∀ w' s', Inv X pins σ H s' → RelV v w' → Q w' s') :
    wpAny (model X.prog X.w) A (getItem (.ref a) u) Q E s := by
  rcases g with ⟨kvs, k, e, ey, l⟩ | ⟨kvs, k, b, e, ey, eb, l⟩
  · subst ey
    obtain ⟨z, hd, vs, rel, dd⟩ := dk_rd I.hok e
    obtain ⟨w', hw, rw'⟩ := RelO.some_of (v := v) (o := valueAt vs k) (by rw [l]; exact rel.val k)
    exact wpAny_getItem_of (kV_is ry) dd.mapOf hw (h w' _ (I.tok _) rw')
  · subst ey
    cases (show u = Value.ref b from ry)
    obtain ⟨z, hd, xs, rel, dd⟩ := dt_rd I.hok e
    obtain ⟨w', hw, rw'⟩ := RelO.some_of (v := v) (o := (atKey xs k).map (·.2)) (by rw [l]; exact rel.val k)
    obtain ⟨p, hp, hp2⟩ := Option.map_eq_some_iff.mp hw
    refine wpAny_getItem_heap (tupleKind_room_in1 hu) (key_of I.hok eb) dd hp ?_
    rw [hp2]
    exact h w' _ (I.tok _) rw'
theorem d_write {h' : Heap} {t' : Nat} {ob : HO} (I : Inv X pins σ H s) (mu : Mut (H a)) (hs : Heap.SameBut a s.heap h') (he : ∃ q, h'.get? a = some q) (new : ObjOk X.prog X.w (upd H a ob) h' a ob) :
    Inv X pins σ (upd H a ob) { s with heap := h', toks := t' } :=
  I.write (x := a) (e := a) mu (.inl rfl) (fun b q hb z => (hs.2 b hb).trans z) he new
theorem dk_new {P : Program} {w : World} {H' : Hp} {h' : Heap} {kvs : List (Key × V)} {vs : List (Key × Value)} (z : kvs.length ≤ sizeLine) (hd : (a == sysModules) = false) (rel : KV kvs vs) (dd : h'.DictOf (mixKind P w) a vs) :
    ObjOk P w H' h' a (.dK kvs) := ⟨z, hd, vs, rel, dd⟩
theorem d_setItem {H' : Hp} {Q : Unit → Shared → Prop} (hu : A.units + 1 < cLine) (I : Inv X pins σ H s) (g : DPut H a y v H') (ry : RelV y u) (rv : RelV v r) (h : ∀ s', Inv X pins σ H' s' → Q () s') :
    wpAny (model X.prog X.w) A (setItem (.ref a) u r) Q E s := by
  rcases g with ⟨kvs, k, e, ey, l, eH⟩ | ⟨kvs, k, b, e, ey, eb, l, eH⟩
  · subst ey eH
    obtain ⟨z, hd, vs, rel, dd⟩ := dk_of I.hok e
    have hz : vs.length ≤ sizeLine := by rw [← rel.length]; exact z
    have hl : (putK kvs k v).length ≤ sizeLine := by have := length_putK kvs k v; omega
    refine wpAny_setItem_pairs (hsz := hz) (kV_is ry) dd fun h' dd' hs => h _ ?_
    have he : ∃ q, h'.get? a = some q := let ⟨q, _, _, hq, _⟩ := dd'; ⟨q, hq⟩
    exact d_write I (by rw [e]; exact True.intro) hs he (dk_new hl hd (rel.put k rv) dd')
  · subst ey eH
    cases (show u = Value.ref b from ry)
    obtain ⟨z, hd, xs, rel, dd⟩ := dt_of I.hok e
    have hz : xs.length ≤ sizeLine := by rw [← Paired.length rel]; exact z
    have hl : (putK kvs k v).length ≤ sizeLine := by have := length_putK kvs k v; omega
    refine wpAny_setItem_heap (hsz := hz) (tupleKind_room_in1 hu) (key_of I.hok eb) dd fun h' dd' hs => h _ ?_
    obtain ⟨q, es, ep, hq, h2, h3, h4, _, h5⟩ := dd'
    refine d_write I (by rw [e]; exact True.intro) hs ⟨q, hq⟩ ⟨hl, hd, _, (rel.put k eb rv).keeps fun c ys ec => ?_, q, es, ep, hq, h2, h3, h4, h5⟩
    rw [upd_ne (ne_of ec e (fun z => nomatch z))]
    exact ec
end
def NoSl (i : Expr) : Prop := ∀ ov iv, subscripted i false ov iv = operate [ov, iv] (getItem ov iv)
theorem subD_of {prog : Program} {w : World} {A : Around} {E : Value → Shared → Prop} {s : Shared} {env : Env} {value slice : Expr} {pos : Pos} {T id : String} {Q : Value → Shared → Prop}
    (hl : typeLookup (.type T) "__getitem__" = pure (some (.builtin id))) (hs : NoSl slice)
    (h : wpAny (model prog w) A (eval value env) (fun o s₁ => wpAny (model prog w) A (eval slice env) (fun i s₂ => s₂.TypeIs o T ∧ wpAny (model prog w) A (getItem o i) Q E s₂) E s₁) E s) :
    wpAny (model prog w) A (eval (.Subscript value slice pos) env) Q E s := by
  refine Subscript_ (wpAny_mono h (fun o s₁ h₁ => wpAny_mono h₁ (fun i s₂ h₂ => ?_) fun _ _ x => x) fun _ _ x => x)
  obtain ⟨hT, h₂⟩ := h₂
  unfold subscriptTail
  refine wpAny_bind ?_
  rw [getitemInPython_of_ne hT.not_modules]
  refine wpAny_bind (wpAny_specialOf hT hl ?_)
  have fin : wpAny (model prog w) A (subscripted slice false o i) (fun r s₃ => wpAny (model prog w) A (letTemporaryGo value o r >>= fun _ => pure r) Q E s₃) E s₂ := by
    rw [hs o i]
    exact wpAny_operating (wpAny_mono h₂ (fun r s₃ h₃ => wpAny_bind (wpAny_letTemporaryGo (wpAny_pure h₃))) fun _ _ x => x)
  first
    | exact wpAny_pure (wpAny_bind fin)
    | exact wpAny_bind (wpAny_pure (wpAny_bind fin))
    | exact wpAny_bind fin
theorem dict_typeIs {X : Cx} {pins : List (Addr × Obj)} {σ : St} {H : Hp} {s : Shared} {a : Addr} {y : V} {o : Option V} (I : Inv X pins σ H s) (g : DGet H a y o) : s.TypeIs (.ref a) "dict" := by
  rcases g with ⟨kvs, k, e, _, _⟩ | ⟨kvs, k, b, e, _, _, _⟩
  · obtain ⟨_, _, vs, _, dd⟩ := dk_rd I.hok e
    exact dd.typeIs
  · obtain ⟨_, _, xs, _, dd⟩ := dt_rd I.hok e
    exact dd.typeIs
def tDGet (td ty : TE) : TE := fun σ H Q => td σ H fun x H1 => ty σ H1 fun y H2 => ∃ a v, x = .ref a ∧ DGet H2 a y (some v) ∧ Q v H2
def sDPut (td ty tv : TE) : TS := fun D σ H => tv σ H fun v H1 => td σ H1 fun x H2 => ty σ H2 fun y H3 => ∃ a H4, x = .ref a ∧ DPut H3 a y v H4 ∧ D.nx σ H4
section
variable {X : Cx} {o i e value : Expr} {pos pos' tpos : Pos} {td ty tv : TE}
theorem pe_dget (hu : X.A.units + 1 < cLine) (ho : PE X o td) (hi : PE X i ty) (hs : NoSl i) : PE X (.Subscript o i pos) (tDGet td ty) := by
  intro pins s σ H Q I h
  refine subD_of PySem.F.slot_dict_getitem.lookup hs (thn (ho pins s σ H _ I h) fun u s1 ⟨x, H1, I1, rx, q1⟩ => thn (hi pins s1 σ H1 _ I1 q1) fun iv s2 ⟨y, H2, I2, ry, a, v, ex, g, q2⟩ => ?_)
  subst ex
  obtain rfl : u = Value.ref a := rx
  exact ⟨dict_typeIs I2 g, d_getItem hu I2 g ry fun w' s3 I3 rw' => ⟨v, H2, I3, rw', q2⟩⟩
theorem ps_dput (hu : X.A.units + 1 < cLine) (ho : PE X o td) (hi : PE X i ty) (hv : PE X value tv) (hs : swapsWith value (some (.Subscript o i pos')) pos.line X.env = pure false) :
    PS X (.Assign [.Subscript o i pos'] value pos) (sDPut td ty tv) := by
  intro pins s σ H D I h
  refine wpAny_Assign_Subscript (thn (hv pins s σ H _ I h) fun r s1 ⟨v, H1, I1, rv, q1⟩ => thn (ho pins s1 σ H1 _ I1 q1) fun u s2 ⟨x, H2, I2, rx, q2⟩ => thn (hi pins s2 σ H2 _ I2 q2) fun iv s3 ⟨y, H3, I3, ry, a, H4, ex, g, q3⟩ => ?_) hs
  subst ex
  obtain rfl : u = Value.ref a := rx
  exact d_setItem hu I3 g ry rv fun s4 I4 => ⟨σ, H4, I4, q3⟩
end
theorem dk_empty {P : Program} {w : World} {H : Hp} (h : Heap) (hb : sysModules < h.objs.size) : ObjOk P w H (h.push { cls := .type "dict", data := .dict #[] }) h.objs.size (.dK []) :=
  ⟨Nat.zero_le _, beq_eq_false_iff_ne.mpr (Ne.symm (Nat.ne_of_lt hb)), [], .nil, Heap.DictOf.new h⟩
def tDNewK : TE := fun _ H Q => ∀ p, H p = none → Q (.ref p) (upd H p (.dK []))
section
variable {X : Cx} {pos : Pos}
theorem pe_dnewK : PE X (.Dict [] [] pos) tDNewK := fun pins s σ H Q I h =>
  wpAny_Dict_empty ⟨.ref s.heap.objs.size, _, I.laid (a := s.heap.objs.size) (o := .dK []) (t' := s.toks) (fun _ _ q => Heap.get?_push_of_some _ q) (Nat.le_refl _) (dk_empty s.heap I.big), rfl, h _ (I.hok.fresh (Nat.le_refl _))⟩
end
structure M1 (X : Cx) (o : Expr) (m : Str) (apos : Pos) (e : Expr) (cpos : Pos) : Prop where
  base : attributeBase o m X.env (eval o X.env) = eval o X.env
  few : ((backTo cpos (starEach [e] X.env)).all (fun x => !x.1) && (backToKw cpos (keywordEach [] X.env)).all (fun x => x.1.isSome)
    && decide (([e] : List Expr).length + ([] : List Keyword).length + (if ([] : List Keyword).isEmpty then 0 else 1) < 30)) = true
  line : (apos.endLine == cpos.line) = true
  trees : backTo cpos (starEach [e] X.env) = [(false, eval e X.env)]
structure M2 (X : Cx) (o : Expr) (m : Str) (apos : Pos) (e f : Expr) (cpos : Pos) : Prop where
  base : attributeBase o m X.env (eval o X.env) = eval o X.env
  few : ((backTo cpos (starEach [e, f] X.env)).all (fun x => !x.1) && (backToKw cpos (keywordEach [] X.env)).all (fun x => x.1.isSome)
    && decide (([e, f] : List Expr).length + ([] : List Keyword).length + (if ([] : List Keyword).isEmpty then 0 else 1) < 30)) = true
  line : (apos.endLine == cpos.line) = true
  trees : backTo cpos (starEach [e, f] X.env) = [(false, eval e X.env), (false, eval f X.env)]
end L2
namespace L2
open PySem PySem.Spec PyProof.Rows
end L2
namespace L2
open PySem PySem.Spec PyProof.Rows
section
variable {X : Cx} {pins : List (Addr × Obj)} {σ : St} {H : Hp} {s : Shared} {h' : Heap}
theorem Inv.lock {d : Addr} {u : HO} (I : Inv X pins σ H s) (h : H d = some u) (mu : Mut (some u)) : ∃ od, Inv X pins σ (upd H d (.frz od u)) s := by
  have x := I.hok d u h
  have ex : ∃ od, s.heap.get? d = some od := by
    cases u with
    | lst xs => obtain ⟨_, _, _, _, e⟩ := x; exact ⟨_, e⟩
    | dK kvs => obtain ⟨_, _, _, _, o, _, _, e, _⟩ := x; exact ⟨o, e⟩
    | dT kvs => obtain ⟨_, _, _, _, o, _, _, e, _⟩ := x; exact ⟨o, e⟩
    | set S n => obtain ⟨o, _, _, _, e, _⟩ := x; exact ⟨o, e⟩
    | ins C dx fs => obtain ⟨_, _, _, e, _⟩ := x; exact ⟨_, e⟩
    | ext φ => obtain ⟨_, ⟨_, e⟩, _⟩ := x; exact ⟨_, e⟩
    | _ => exact False.elim mu
  obtain ⟨od, e⟩ := ex
  have new : ObjOk X.prog X.w (upd H d (.frz od u)) s.heap d (.frz od u) := by
    refine ⟨e, x.stay (fun b v _ q => q) (fun b q => ?_) fun b xs q => ?_⟩
    · rw [upd_ne (fun z => by rw [z, h] at q; cases q; exact mu)]; exact q
    · rw [upd_ne (fun z => by rw [z, h] at q; cases q; exact mu)]; exact q
  exact ⟨od, I.write (x := d) (e := d) (t' := s.toks) (h' := s.heap) (by rw [h]; exact mu) (.inl rfl) (fun b v _ q => q) ⟨od, e⟩ new⟩
theorem Inv.nofrz {d : Addr} {u : HO} (I : Inv X pins σ H s) (h : H d = some u) (mu : Mut (some u)) : ∀ o' u', X.H_0 d ≠ some (.frz o' u') := fun o' u' e => by
  have q := I.base.frzs d o' u' e
  rw [h] at q
  cases q
  exact mu
theorem Inv.unlock {d : Addr} {od : Obj} {u : HO} (I : Inv X pins σ H s) (h : H d = some (.frz od u)) (hn : ∀ o' u', X.H_0 d ≠ some (.frz o' u')) : Inv X pins σ (upd H d u) s := by
  have neH : ∀ b o, H b = some o → (∀ o' u', o ≠ .frz o' u') → b ≠ d := fun b o e hne z => by
    rw [z, h] at e
    cases e
    exact hne _ _ rfl
  have neN : ∀ b, H b = none → b ≠ d := fun b e z => by rw [z, h] at e; cases e
  refine ⟨I.ok, I.os, I.bare, ⟨I.base.keep, I.base.slot, fun b o e n hx => ?_, I.base.there, fun b xs e => ?_, fun b o x e => ?_, fun b ps e => ?_⟩, I.loc, I.cell, ?_, fun x c e => ?_, fun p hp => ?_, fun b o e => ?_, I.len⟩
  · rw [upd_ne (neN b (I.base.free b o e n hx))]; exact I.base.free b o e n hx
  · have q := I.base.tups b xs e
    rw [upd_ne (neH b _ q (fun _ _ z => nomatch z))]; exact q
  · have q := I.base.frzs b o x e
    rw [upd_ne (fun z => by rw [z] at e; exact hn _ _ e)]; exact q
  · obtain ⟨m, q⟩ := I.base.tbls b ps e
    exact ⟨m, by rw [upd_ne (neH b _ q (fun _ _ z => nomatch z))]; exact q⟩
  · rw [upd_ne (neN _ I.free)]; exact I.free
  · rw [upd_ne (neN c (I.freeC x c e))]; exact I.freeC x c e
  · obtain ⟨e, n, r⟩ := I.pin p hp
    exact ⟨e, by rw [upd_ne (neN _ n)]; exact n, r⟩
  · by_cases hb : b = d
    · rw [hb, upd_same] at e
      cases e
      rw [hb]
      obtain ⟨_, x⟩ := I.hok d _ h
      exact x.stay (fun c v _ q => q) (fun c q => by rw [upd_ne (neH c _ q (fun _ _ z => nomatch z))]; exact q) fun c xs q => by rw [upd_ne (neH c _ q (fun _ _ z => nomatch z))]; exact q
    · rw [upd_ne hb] at e
      exact (I.hok b o e).stay (fun c v _ q => q) (fun c q => by rw [upd_ne (neH c _ q (fun _ _ z => nomatch z))]; exact q) fun c xs q => by rw [upd_ne (neH c _ q (fun _ _ z => nomatch z))]; exact q
end
def tLock (t : TS) : TS := fun D σ H => ∃ d u, H d = some u ∧ Mut (some u) ∧ ∀ od, t ⟨fun σ' H' => H' d = some (.frz od u) ∧ D.nx σ' (upd H' d u), fun v H' => H' d = some (.frz od u) ∧ D.rt v (upd H' d u), fun σ' H' => H' d = some (.frz od u) ∧ D.bk σ' (upd H' d u), fun σ' H' => H' d = some (.frz od u) ∧ D.ct σ' (upd H' d u)⟩ σ (upd H d (.frz od u))
section
variable {X : Cx}
theorem ps_lock {st : Stmt} {t : TS} (h : PS X st t) : PS X st (tLock t) := by
  intro pins s σ H D I hw
  obtain ⟨d, u, hd, mu, hw⟩ := hw
  obtain ⟨od, I1⟩ := I.lock hd mu
  refine thn (h pins s σ _ _ I1 (hw od)) fun f s1 q => ?_
  cases f with
  | next => obtain ⟨σ', H', I2, e, q⟩ := q; exact ⟨σ', _, I2.unlock e (I.nofrz hd mu), q⟩
  | brk => obtain ⟨σ', H', I2, e, q⟩ := q; exact ⟨σ', _, I2.unlock e (I.nofrz hd mu), q⟩
  | cont => obtain ⟨σ', H', I2, e, q⟩ := q; exact ⟨σ', _, I2.unlock e (I.nofrz hd mu), q⟩
  | ret v => obtain ⟨x, σ', H', I2, r, e, q⟩ := q; exact ⟨x, σ', _, I2.unlock e (I.nofrz hd mu), r, q⟩
theorem pi_one {tg : Expr} {pins : List (Addr × Obj)} {σ : St} {H : Hp} {s : Shared} {R : It → Hp → Prop} {J : It} {tn : Nat → Heap → Prop} {tk : Nat} (I : Inv X pins σ H s) (o : Obj)
    (T : Turn X.prog X.w X.K tg J [s.heap.objs.size] s.heap.objs.size tn) (st : tn 0 (s.heap.push o)) (q : R J H) : PIE X pins σ tg R (.ref s.heap.objs.size) { s with heap := s.heap.push o, toks := tk } := by
  refine ⟨s.heap.objs.size, [s.heap.objs.size], tn, J, H, rfl, I.kept fun b ob e => Heap.get?_push_of_some _ e, T, st, fun b hb => ?_, q⟩
  have e : b = s.heap.objs.size := by simpa using hb
  subst e
  exact I.fpOk (Nat.le_refl _) (I.hok.fresh (Nat.le_refl _))
end
def RgC (i j c : Int) (n : Nat) : Prop := c ≠ 0 ∧ c.natAbs < 1073741824 ∧ Builtin.Range.small i j c = true ∧ Builtin.Range.rangeSize i j c = n
theorem RgC.neg {i j : Int} (ha : -(2 ^ 62) ≤ i) (ha' : i < 2 ^ 62) (hb : -(2 ^ 62) ≤ j) (hb' : j < 2 ^ 62) : RgC i j (-1) (i - j).toNat :=
  ⟨by decide, by decide, PySem.W.small_down ha ha' hb hb', PySem.W.rangeSize_downNat i j⟩
def Its (x : Str) : It := ⟨fun i _ => i < x.cps.size, fun i H v H' => H' = H ∧ ∃ c, x.cps[i]? = some c ∧ v = .str ⟨#[c]⟩, fun i _ => x.cps.size ≤ i⟩
theorem turn_str {P : Program} {w : World} {K : PySem.W.Frag} {tg : Expr} (it : Addr) (x : Str) (t : Tok) (ty : String) (hty : ty = "str_ascii_iterator" ∨ ty = "str_iterator") :
    Turn P w K tg (Its x) [it] it (fun i h => h.IsStrIter it ty x t i) where
  mem := by simp
  obj := fun i h st b hb => by
    have e : b = it := by simpa using hb
    subst e
    obtain ⟨o, e, c, d⟩ := st
    exact ⟨o, e, fun v z => by rw [d] at z; cases z⟩
  keep := fun i h h' st k => let ⟨o, ho, r⟩ := st; ⟨o, k it (by simp) o ho, r⟩
  item := by
    intro X hP hw hK hc i pins s σ H E I hf st hg
    subst hP hw hK
    obtain ⟨f0, f1, f2, f3, f4, f5⟩ := hf it (by simp)
    have W : Walks X.prog X.w X.A it [it] [it] x.cps.size (SignAt x) (fun i h => h.IsStrIter it ty x t i) := by
      rcases hty with e | e
      · rw [e]; exact Walks.strAscii (I.ok.hd hc) it x t
      · rw [e]; exact Walks.strWide (I.ok.hd hc) it x t
    have hno : ["enumerate", "zip", "dict_itemiterator", "dict_reverseitemiterator", "odict_iterator", "itertools.zip_longest", "itertools.pairwise"].contains ty = false := by
      rcases hty with e | e
      · rw [e]; decide
      · rw [e]; decide
    refine W.item i s _ _ hg st fun v h' tk hv st' kk => ?_
    obtain ⟨c, u, hcx, rfl⟩ := hv
    have I1 : Inv X pins σ H { s with heap := h', toks := tk } := I.turned (fun b o hb e => kk b o (by simpa using hb) e) f0 f1 f3 f4 f5
    obtain ⟨oi, e, cc, dd⟩ := id st'
    exact ⟨_, rfl, go_of (s := { s with heap := h', toks := tk }) e cc dd hno ⟨.str ⟨#[c]⟩, H, I1, ⟨u, rfl⟩, ⟨rfl, c, hcx, rfl⟩, st', fun b hb => (hf b hb).1⟩⟩
  done := by
    intro X hP hw hK hc i pins s σ H E I hf st hg
    subst hP hw hK
    obtain ⟨f0, f1, f2, f3, f4, f5⟩ := hf it (by simp)
    have hx : x.cps[i]? = none := Array.getElem?_eq_none hg
    rcases hty with e | e
    · rw [e] at st
      exact wpAny_pyNext_ascii_end (I.ok.hd hc) st hx fun h' eb => ⟨rfl, I.turned (t' := s.toks) (fun b o hb e => eb b o hb e) f0 f1 f3 f4 f5⟩
    · rw [e] at st
      exact wpAny_pyNext_wide_end (I.ok.hd hc) st hx fun h' eb => ⟨rfl, I.turned (t' := s.toks) (fun b o hb e => eb b o hb e) f0 f1 f3 f4 f5⟩
  self := fun A i s Q E st h => by
    rcases hty with e | e
    · rw [e] at st; exact wpAny_pyIter_striter_ascii st h
    · rw [e] at st; exact wpAny_pyIter_striter_wide st h
def iStr (te : TE) : TI := fun σ H R => te σ H fun v H1 => ∃ x, v = .str x ∧ R (Its x) H1
theorem pi_str {X : Cx} {tg e : Expr} {te : TE} (he : PE X e te) : PI X tg e (iStr te) := by
  intro pins s σ H R I h
  refine thn (he pins s σ H _ I h) fun v s1 ⟨y, H1, I1, r1, x, ex, q⟩ => ?_
  subst ex
  obtain ⟨t, rfl⟩ := r1
  cases ha : x.cps.all (· < 128)
  · exact wpAny_pyIter_wide ha (pi_one (tk := s1.toks) I1 _ (turn_str _ x t "str_iterator" (.inr rfl)) ⟨_, Heap.get?_push_size _ rfl, rfl, rfl⟩ q)
  · exact wpAny_pyIter_ascii ha (pi_one (tk := s1.toks) I1 _ (turn_str _ x t "str_ascii_iterator" (.inl rfl)) ⟨_, Heap.get?_push_size _ rfl, rfl, rfl⟩ q)
section
variable {prog : Program} {w : World} {A : Around} {E : Value → Shared → Prop} {s : Shared}
theorem iter_keys {d : Addr} {o : Obj} {es : Array DictEntry} {ep : Nat} {Q : Value → Shared → Prop} (hd : (d == sysModules) = false) (ho : s.heap.get? d = some o) (hc : o.ExactDict) (hdat : o.data = .dict es ep)
    (hQ : Q (.ref s.heap.objs.size) { s with heap := s.heap.push { cls := .type "dict_keyiterator", data := .fields #[.ref d, .int 0 0, .int es.size 0, .int ep 0] } }) :
    wpAny (model prog w) A (pyIter (.ref d)) Q E s := by
  have hT : s.TypeIs (.ref d) "dict" := ⟨o, ho, hc.1⟩
  refine wpAny_pyIter_slot hT F.slot_dict_iter (wpAny_call_entry F.slot_dict_iter hT F.entry_dict_iter ?_ (F.args_dict_iter_1 _))
  unfold Builtin.«dict.__iter__»
  refine wpAny_bind ?_
  unfold Builtin.Dict.dictSlotNone
  refine wpAny_bind (wpAny_notOrdered_dict hT ?_)
  show wpAny _ _ (pure (Value.ref d)) _ _ s
  refine wpAny_pure ?_
  show wpAny _ _ (Builtin.Dict.showsAll d >>= _) _ _ s
  unfold Builtin.Dict.showsAll
  rw [if_neg (by rw [hd]; exact Bool.false_ne_true)]
  refine wpAny_bind (wpAny_pure ?_)
  refine wpAny_bind (wpAny_dictEntries ho hdat ?_)
  refine wpAny_bind (wpAny_dictEpoch ho hdat ?_)
  refine wpAny_bind (wpAny_newObj_type (wpAny_pure ⟨_, rfl, "dict_keyiterator", _, ⟨_, Heap.get?_push_size _ rfl, rfl⟩, F.slot_dict_keyiterator_next.lookup, ?_⟩))
  simpa [rawInt] using hQ
theorem next_key_item {it d : Addr} {i n ep : Nat} {od : Obj} {es : Array DictEntry} {en : DictEntry} {Q : Option Value → Shared → Prop} (hit : s.heap.IsKeyIter it d i n ep) (hod : s.heap.get? d = some od) (hdd : od.data = .dict es ep)
    (hsz : es.size = n) (hx : es[i]? = some en) (hQ : ∀ h', h'.IsKeyIter it d (i + 1) n ep → Heap.SameBut it s.heap h' → Q (some en.key) { s with heap := h' }) : wpAny (model prog w) A (pyNext (.ref it)) Q E s := by
  obtain ⟨o, ho, hc, hd⟩ := id hit
  unfold pyNext
  refine wpAny_bind (wpAny_attempt (wpAny_callSpecial?_slot (name := Str.ofString "__next__") hit.typeIs F.slot_dict_keyiterator_next
    (wpAny_call_entry F.slot_dict_keyiterator_next hit.typeIs F.entry_dict_keyiterator_next ?_ (F.args_dict_keyiterator_next_1 _))))
  refine wpAny_bind (wpAny_pure ?_)
  refine wpAny_bind ?_
  refine wpAny_bind ?_
  first | refine wpAny_bind (wpAny_typeNameOfWhole_keyiter hit.typeIs (wpAny_pure ?_)) | refine wpAny_bind (wpAny_typeNameOf_keyiter hit.typeIs (wpAny_pure ?_))
  refine wpAny_bind (wpAny_fieldsOf ho hd ?_)
  have hown : Builtin.Dict_items.ownsTuple "dict_keyiterator" = false := by decide
  simp only [hown, Bool.false_eq_true, if_false]
  show wpAny _ _ (if (Value.ref d == Value.none) = true then _ else _) _ _ s
  rw [if_neg (show ¬ ((Value.ref d == Value.none) = true) from Bool.false_ne_true)]
  refine wpAny_bind (wpAny_pure ?_)
  refine wpAny_bind (wpAny_dictEntries hod hdd ?_)
  rw [if_neg (by rw [hsz]; simp)]
  refine wpAny_bind (wpAny_pure ?_)
  refine wpAny_bind (wpAny_dictEpoch hod hdd ?_)
  rw [if_neg (by simp)]
  refine wpAny_pure ?_
  obtain ⟨hlt', hen⟩ := Array.getElem?_eq_some_iff.mp hx
  simp only [show ¬ ((i : Int) < 0) from by omega, if_false, Int.toNat_natCast, Array.getElem?_eq_getElem hlt']
  refine wpAny_bind ?_
  first | refine wpAny_bind (wpAny_typeNameOfWhole_keyiter hit.typeIs (wpAny_pure ?_)) | refine wpAny_bind (wpAny_typeNameOf_keyiter hit.typeIs (wpAny_pure ?_))
  refine wpAny_bind (wpAny_isOneOf_keyiter hit.typeIs ?_)
  show wpAny _ _ (setField (.ref it) 1 (rawInt ((i : Int) + 1)) >>= _) _ _ s
  refine wpAny_bind (wpAny_setField ho hd (by simp) ?_)
  have hit' : (s.heap.update it (Obj.mapFields (·.setIfInBounds 1 (rawInt ((i : Int) + 1))))).IsKeyIter it d (i + 1) n ep :=
    ⟨_, Heap.get?_update_self _ ho (Obj.isFreed_of_fields (Obj.data_mapFields hd _)), (Obj.cls_mapFields ..).trans hc, by rw [Obj.data_mapFields hd]; simp [rawInt]⟩
  refine wpAny_bind (wpAny_holding ?_)
  refine wpAny_bind (wpAny_isOneOf_keyiter (s := { s with heap := s.heap.update it (Obj.mapFields (·.setIfInBounds 1 (rawInt ((i : Int) + 1)))) }) hit'.typeIs ?_)
  show wpAny _ _ (pure es[i].key) _ _ _
  rw [hen]
  exact wpAny_pure (wpAny_pure ⟨_, rfl, wpAny_pure (hQ _ hit' (Heap.SameBut.update ..))⟩)
theorem next_key_end {it d : Addr} {i n ep : Nat} {od : Obj} {es : Array DictEntry} {Q : Option Value → Shared → Prop} (hh : A.handled = none) (hit : s.heap.IsKeyIter it d i n ep) (hod : s.heap.get? d = some od) (hdd : od.data = .dict es ep)
    (hsz : es.size = n) (hge : n ≤ i) (hQ : ∀ h', Heap.ExtBut it s.heap h' → Q none { s with heap := h' }) : wpAny (model prog w) A (pyNext (.ref it)) Q E s := by
  obtain ⟨o, ho, hc, hd⟩ := id hit
  unfold pyNext
  refine wpAny_bind (wpAny_attempt (wpAny_callSpecial?_slot (name := Str.ofString "__next__") hit.typeIs F.slot_dict_keyiterator_next
    (wpAny_call_entry F.slot_dict_keyiterator_next hit.typeIs F.entry_dict_keyiterator_next ?_ (F.args_dict_keyiterator_next_1 _))))
  refine wpAny_bind (wpAny_pure ?_)
  refine wpAny_bind ?_
  refine wpAny_bind ?_
  first | refine wpAny_bind (wpAny_typeNameOfWhole_keyiter hit.typeIs (wpAny_pure ?_)) | refine wpAny_bind (wpAny_typeNameOf_keyiter hit.typeIs (wpAny_pure ?_))
  refine wpAny_bind (wpAny_fieldsOf ho hd ?_)
  have hown : Builtin.Dict_items.ownsTuple "dict_keyiterator" = false := by decide
  simp only [hown, Bool.false_eq_true, if_false]
  show wpAny _ _ (if (Value.ref d == Value.none) = true then _ else _) _ _ s
  rw [if_neg (show ¬ ((Value.ref d == Value.none) = true) from Bool.false_ne_true)]
  refine wpAny_bind (wpAny_pure ?_)
  refine wpAny_bind (wpAny_dictEntries hod hdd ?_)
  rw [if_neg (by rw [hsz]; simp)]
  refine wpAny_bind (wpAny_pure ?_)
  refine wpAny_bind (wpAny_dictEpoch hod hdd ?_)
  rw [if_neg (by simp)]
  refine wpAny_pure ?_
  have hge' : es.size ≤ i := by rw [hsz]; exact hge
  simp only [show ¬ ((i : Int) < 0) from by omega, if_false, Int.toNat_natCast, Array.getElem?_eq_none hge']
  refine wpAny_bind ?_
  first | refine wpAny_bind (wpAny_typeNameOfWhole_keyiter hit.typeIs (wpAny_pure ?_)) | refine wpAny_bind (wpAny_typeNameOf_keyiter hit.typeIs (wpAny_pure ?_))
  show wpAny _ _ (setField (.ref it) 0 .none >>= _) _ _ s
  refine wpAny_bind (wpAny_setField ho hd (by simp) ?_)
  show wpAny _ _ (newExc (.type "StopIteration") [] >>= _) _ _ _
  refine wpAny_bind ?_
  simp only [newExc, newTuple]
  refine wpAny_bind (wpAny_newObj_type ?_ (by size_fits))
  refine wpAny_bind (m := firstArgMember _ _) (wpAny_of_eq (a := Value.none) (by first | rfl | (simp only [firstArgMember]; rfl)) ?_)
  refine wpAny_newObj_type ?_ (by size_fits)
  simp only [raiseNew]
  refine wpAny_bind (wpAny_handled ?_)
  rw [show A.in1.handled = none from hh]
  refine wpAny_bind (wpAny_pure (wpAny_throw ?_))
  refine wpAny_bind (wpAny_isInstance (T := "StopIteration") (b := true) ⟨_, Heap.get?_push_size _ rfl, rfl⟩ isSubtype_stop ?_)
  exact wpAny_pure (hQ _ (((Heap.SameBut.update ..).extBut.push _).push _))
end
theorem kv_get {κ : Type} {kvs : List (κ × V)} {vs : List (κ × Value)} (h : KV kvs vs) : ∀ {i : Nat} {k : κ} {v : V}, kvs[i]? = some (k, v) → ∃ u, vs[i]? = some (k, u) ∧ RelV v u := by
  unfold KV at h
  induction h with
  | nil => intro i k v e; simp at e
  | @cons a b l₁ l₂ r t ih =>
    intro i k v e
    cases i with
    | zero =>
      simp only [List.getElem?_cons_zero, Option.some.injEq] at e
      subst e
      refine ⟨b.2, ?_, r.2⟩
      simp only [List.getElem?_cons_zero]
      exact congrArg some (Prod.ext r.1.symm rfl)
    | succ j =>
      simp only [List.getElem?_cons_succ] at e ⊢
      exact ih e
theorem paired_get {α β : Type} {G : α → β → Prop} {l₁ : List α} {l₂ : List β} (h : Paired G l₁ l₂) : ∀ {i : Nat} {a : α}, l₁[i]? = some a → ∃ b, l₂[i]? = some b ∧ G a b := by
  induction h with
  | nil => intro i a e; simp at e
  | @cons a b l₁ l₂ r t ih =>
    intro i a' e
    cases i with
    | zero =>
      simp only [List.getElem?_cons_zero, Option.some.injEq] at e
      subst e
      exact ⟨b, rfl, r⟩
    | succ j =>
      simp only [List.getElem?_cons_succ] at e ⊢
      exact ih e
theorem relV_key {k : Key} {u : Value} (h : keyIs k u = true) : RelV (kV k) u := by
  rcases keyIs_shape h with ⟨i, t, rfl, rfl⟩ | ⟨x, t, rfl, rfl⟩
  · exact ⟨t, rfl⟩
  · exact ⟨t, rfl⟩
section
variable {X : Cx} {pins : List (Addr × Obj)} {σ : St} {H : Hp} {s : Shared} {d : Addr} {o : Obj}
theorem Inv.frzK {kvs : List (Key × V)} (I : Inv X pins σ H s) (h : H d = some (.frz o (.dK kvs))) :
    (d == sysModules) = false ∧ s.heap.get? d = some o ∧ o.ExactDict ∧ ∃ (es : Array DictEntry) (ep : Nat) (vs : List (Key × Value)), o.data = .dict es ep ∧ es.size = kvs.length ∧ KV kvs vs ∧ s.heap.DictAt (mixKind X.prog X.w) d vs ep := by
  obtain ⟨hd, z, hs, vs, kv, o', es, ep, ho, hx, hdt, r⟩ := I.hok d _ h
  rw [hd] at ho
  cases ho
  refine ⟨hs, hd, hx, es, ep, vs, hdt, ?_, kv, o, es, hd, hx, hdt, r⟩
  have l1 := r.2.1.length
  have l2 : kvs.length = vs.length := Paired.length kv
  rw [Array.length_toList] at l1
  omega
theorem Inv.frzT {kvs : List (List Key × V)} (I : Inv X pins σ H s) (h : H d = some (.frz o (.dT kvs))) :
    (d == sysModules) = false ∧ s.heap.get? d = some o ∧ o.ExactDict ∧ ∃ (es : Array DictEntry) (ep : Nat), o.data = .dict es ep ∧ es.size = kvs.length ∧
      ∀ (i : Nat) (k : List Key) (v : V), kvs[i]? = some (k, v) → ∃ (en : DictEntry) (q : Addr), es[i]? = some en ∧ en.key = .ref q ∧ H q = some (.tup (k.map kV)) := by
  obtain ⟨hd, z, hs, xs, pr, o', es, ep, ho, hx, hdt, he, _⟩ := I.hok d _ h
  rw [hd] at ho
  cases ho
  refine ⟨hs, hd, hx, es, ep, hdt, ?_, fun i k v e => ?_⟩
  · have l1 : es.size = xs.length := size_of_entries he
    have l2 : kvs.length = xs.length := Paired.length pr
    omega
  · obtain ⟨b, hb, e1, e2, _⟩ := paired_get pr e
    have q := entry_at he i
    rw [hb] at q
    exact ⟨_, b.2.1, q, rfl, e2⟩
end
def Itk (d : Addr) (o : Obj) (kvs : List (Key × V)) : It :=
  ⟨fun i H => H d = some (.frz o (.dK kvs)) ∧ i < kvs.length, fun i H x H' => H' = H ∧ ∃ k v, kvs[i]? = some (k, v) ∧ x = kV k, fun i H => H d = some (.frz o (.dK kvs)) ∧ kvs.length ≤ i⟩
def Itkt (d : Addr) (o : Obj) (kvs : List (List Key × V)) : It :=
  ⟨fun i H => H d = some (.frz o (.dT kvs)) ∧ i < kvs.length, fun i H x H' => H' = H ∧ ∃ (k : List Key) (v : V) (q : Addr), kvs[i]? = some (k, v) ∧ x = .ref q ∧ H q = some (.tup (k.map kV)), fun i H => H d = some (.frz o (.dT kvs)) ∧ kvs.length ≤ i⟩
theorem dict_ep {o : Obj} {es es' : Array DictEntry} {ep ep' : Nat} (h : o.data = .dict es ep) (h' : o.data = .dict es' ep') : es' = es ∧ ep' = ep := by
  rw [h] at h'
  cases h'
  exact ⟨rfl, rfl⟩
section
variable {P : Program} {w : World} {K : PySem.W.Frag} {tg : Expr} {d : Addr} {o : Obj} {es : Array DictEntry} {ep : Nat}
theorem turn_keys {kvs : List (Key × V)} (it : Addr) (hod : o.data = .dict es ep) : Turn P w K tg (Itk d o kvs) [it] it (fun i h => h.IsKeyIter it d i kvs.length ep) where
  mem := by simp
  obj := fun i h st b hb => by
    have e : b = it := by simpa using hb
    subst e
    obtain ⟨oi, e, c, dd⟩ := st
    exact ⟨oi, e, fun v z => by rw [dd] at z; cases z⟩
  keep := fun i h h' st k => st.at fun oi e => k it (by simp) oi e
  item := by
    intro X hP hw hK hc i pins s σ H E I hf st hg
    subst hP hw hK
    obtain ⟨hd, hi⟩ := hg
    obtain ⟨f0, f1, f2, f3, f4, f5⟩ := hf it (by simp)
    obtain ⟨hs, hgd, hx, es', ep', vs, hdt, hsz, kv, hm⟩ := I.frzK hd
    obtain ⟨rfl, rfl⟩ := dict_ep hod hdt
    obtain ⟨⟨k, v⟩, hkv⟩ : ∃ p, kvs[i]? = some p := ⟨kvs[i], List.getElem?_eq_getElem hi⟩
    obtain ⟨u, hu, ru⟩ := kv_get kv hkv
    have hl : kvs.length = vs.length := Paired.length kv
    rw [hl] at st
    refine wpAny_pyNext_dict_item st hm hu fun key h' hkey st' sb => ?_
    have I1 : Inv X pins σ H { s with heap := h' } := I.turned (t' := s.toks) (fun b ob hb e => (sb.2 b hb).trans e) f0 f1 f3 f4 f5
    obtain ⟨oi, e, c, dd⟩ := id st'
    refine ⟨key, rfl, go_of (s := { s with heap := h' }) e c dd (by decide) ⟨kV k, H, I1, relV_key (show keyIs k key = true from hkey), ⟨rfl, k, v, hkv, rfl⟩, ?_, fun b hb => (hf b hb).1⟩⟩
    show h'.IsKeyIter it d (i + 1) kvs.length _
    rw [hl]
    exact st'
  done := by
    intro X hP hw hK hc i pins s σ H E I hf st hg
    subst hP hw hK
    obtain ⟨hd, hi⟩ := hg
    obtain ⟨f0, f1, f2, f3, f4, f5⟩ := hf it (by simp)
    obtain ⟨hs, hgd, hx, es', ep', vs, hdt, hsz, kv, hm⟩ := I.frzK hd
    obtain ⟨rfl, rfl⟩ := dict_ep hod hdt
    exact next_key_end (I.ok.hd hc) st hgd hdt hsz hi fun h' eb => ⟨rfl, I.turned (t' := s.toks) (fun b ob hb e => eb b ob hb e) f0 f1 f3 f4 f5⟩
  self := fun A i s Q E st h => wpAny_pyIter_keyiter st h
theorem turn_keysT {kvs : List (List Key × V)} (it : Addr) (hod : o.data = .dict es ep) : Turn P w K tg (Itkt d o kvs) [it] it (fun i h => h.IsKeyIter it d i kvs.length ep) where
  mem := by simp
  obj := fun i h st b hb => by
    have e : b = it := by simpa using hb
    subst e
    obtain ⟨oi, e, c, dd⟩ := st
    exact ⟨oi, e, fun v z => by rw [dd] at z; cases z⟩
  keep := fun i h h' st k => st.at fun oi e => k it (by simp) oi e
  item := by
    intro X hP hw hK hc i pins s σ H E I hf st hg
    subst hP hw hK
    obtain ⟨hd, hi⟩ := hg
    obtain ⟨f0, f1, f2, f3, f4, f5⟩ := hf it (by simp)
    obtain ⟨hs, hgd, hx, es', ep', hdt, hsz, ent⟩ := I.frzT hd
    obtain ⟨rfl, rfl⟩ := dict_ep hod hdt
    obtain ⟨⟨k, v⟩, hkv⟩ : ∃ p, kvs[i]? = some p := ⟨kvs[i], List.getElem?_eq_getElem hi⟩
    obtain ⟨en, q, hen, hkey, hq⟩ := ent i k v hkv
    refine next_key_item st hgd hdt hsz hen fun h' st' sb => ?_
    have I1 : Inv X pins σ H { s with heap := h' } := I.turned (t' := s.toks) (fun b ob hb e => (sb.2 b hb).trans e) f0 f1 f3 f4 f5
    obtain ⟨oi, e, c, dd⟩ := id st'
    exact ⟨en.key, rfl, go_of (s := { s with heap := h' }) e c dd (by decide) ⟨.ref q, H, I1, hkey, ⟨rfl, k, v, q, hkv, rfl, hq⟩, st', fun b hb => (hf b hb).1⟩⟩
  done := by
    intro X hP hw hK hc i pins s σ H E I hf st hg
    subst hP hw hK
    obtain ⟨hd, hi⟩ := hg
    obtain ⟨f0, f1, f2, f3, f4, f5⟩ := hf it (by simp)
    obtain ⟨hs, hgd, hx, es', ep', hdt, hsz, ent⟩ := I.frzT hd
    obtain ⟨rfl, rfl⟩ := dict_ep hod hdt
    exact next_key_end (I.ok.hd hc) st hgd hdt hsz hi fun h' eb => ⟨rfl, I.turned (t' := s.toks) (fun b ob hb e => eb b ob hb e) f0 f1 f3 f4 f5⟩
  self := fun A i s Q E st h => by
    refine wpAny_pyIter_slot st.typeIs F.slot_dict_keyiterator_iter (wpAny_call_entry F.slot_dict_keyiterator_iter st.typeIs F.entry_dict_keyiterator_iter ?_ (F.args_dict_keyiterator_iter_1 _))
    show wpAny _ _ (ret (.ref it)) _ _ s
    exact wpAny_pure ⟨_, rfl, "dict_keyiterator", _, st.typeIs, F.slot_dict_keyiterator_next.lookup, h⟩
end
def iKeys (td : TE) : TI := fun σ H R => td σ H fun x H1 => ∃ d o, x = .ref d ∧ ((∃ kvs, H1 d = some (.frz o (.dK kvs)) ∧ R (Itk d o kvs) H1) ∨ ∃ kvs, H1 d = some (.frz o (.dT kvs)) ∧ R (Itkt d o kvs) H1)
section
variable {X : Cx} {tg e : Expr} {td : TE} {apos cpos : Pos}
theorem pi_keys (he : PE X e td) : PI X tg e (iKeys td) := by
  intro pins s σ H R I h
  refine thn (he pins s σ H _ I h) fun u s1 ⟨x, H1, I1, rx, d, o, ex, q⟩ => ?_
  subst ex
  obtain rfl : u = Value.ref d := rx
  rcases q with ⟨kvs, hd, q⟩ | ⟨kvs, hd, q⟩
  · obtain ⟨hs, hgd, hx, es, ep, vs, hdt, hsz, kv, hm⟩ := I1.frzK hd
    refine iter_keys hs hgd hx hdt (pi_one (tk := s1.toks) I1 _ (turn_keys _ hdt) ⟨_, Heap.get?_push_size _ rfl, rfl, ?_⟩ q)
    rw [hsz] <;> rfl
  · obtain ⟨hs, hgd, hx, es, ep, hdt, hsz, ent⟩ := I1.frzT hd
    refine iter_keys hs hgd hx hdt (pi_one (tk := s1.toks) I1 _ (turn_keysT _ hdt) ⟨_, Heap.get?_push_size _ rfl, rfl, ?_⟩ q)
    rw [hsz] <;> rfl
end
end L2
section
namespace Bits
open PySem PyProof.Rows
end Bits
end
section
namespace TL
open PySem PySem.Builtin PySem.Builtin.Str PySem.StrLaws
abbrev tl (x : Str) : List Nat := x.cps.toList
def pre (S l : List Nat) : Bool := l.take S.length == S
def spl (S : List Nat) : Nat → List Nat → List Nat → List (List Nat)
  | _, acc, [] => [acc]
  | 0, acc, c :: r => if pre S (c :: r) = true then acc :: spl S (S.length - 1) [] r else spl S 0 (acc ++ [c]) r
  | k + 1, acc, _ :: r => spl S k acc r
def par (S : List Nat) : List Nat → List Nat → Option (List Nat × List Nat)
  | _, [] => none
  | acc, c :: r => if pre S (c :: r) = true then some (acc, (c :: r).drop S.length) else par S (acc ++ [c]) r
end TL
end
namespace L2
open PySem PySem.Spec PyProof.Rows
end L2
namespace L2
open PySem PySem.Spec PyProof.Rows
section
variable {X : Cx}
theorem op_in_sign : OpR X (compareOp .In) (fun x y H Q => ∃ (c : Nat) (z : Str), x = .str ⟨#[c]⟩ ∧ y = .str z ∧ Q (.bl (decide (c ∈ z.cps.toList))) H) := by
  intro pins s σ H x y v u Q I rx ry h
  obtain ⟨c, z, rfl, rfl, q⟩ := h
  obtain ⟨t, rfl⟩ := rx
  obtain ⟨t', rfl⟩ := ry
  exact PyProof.Rows.in_str (fin_bl I q (PySem.StrLaws.found_one z c).symm)
end
theorem IsPart.raw {v : Value} {o : Option Int} (p : IsPart v o) : ∃ l : Option (Int × Tok), v = partValue l ∧ l.map (·.1) = o := by
  cases p with
  | none => exact ⟨none, rfl, rfl⟩
  | int i t => exact ⟨some (i, t), rfl, rfl⟩
def clipS (n d : Nat) : Option Int → Int
  | none => (d : Int)
  | some i => max 0 (min (if i < 0 then i + (n : Int) else i) (n : Int))
theorem clipS_eq (n d : Nat) (o : Option Int) : clipS n d o = ((HT.sIx n d o : Nat) : Int) := by
  cases o with
  | none => rfl
  | some v =>
    show max (0 : Int) (min (if v < 0 then v + (n : Int) else v) (n : Int)) = (((if v < 0 then (v + (n : Int)).toNat else min v.toNat n) : Nat) : Int)
    by_cases hv : v < 0
    · simp only [if_pos hv]
      omega
    · simp only [if_neg hv]
      omega
theorem sidx_clip (a b : Option Int) (n : Nat) : Builtin.Str.strSliceIndices a b 1 n = sliceRange (clipS n 0 a) (clipS n n b) 1 := by
  have h1 : ((1 : Int) > 0) = True := by simp
  cases a <;> cases b <;> first
    | rfl
    | (simp only [Builtin.Str.strSliceIndices, clipS, h1, if_true]; rfl)
    | simp [Builtin.Str.strSliceIndices, clipS]
theorem sidx (a b : Option Int) (n : Nat) : Builtin.Str.strSliceIndices a b 1 n = (List.range (HT.sIx n n b - HT.sIx n 0 a)).map (fun k => HT.sIx n 0 a + k) := by
  rw [sidx_clip, clipS_eq, clipS_eq]
  generalize HT.sIx n 0 a = p
  generalize HT.sIx n n b = q
  simp only [sliceRange, show ((1 : Int) > 0) = True from by simp, if_true]
  by_cases hlt : (p : Int) < q
  · have e3 : (((q : Int) - p + 1 - 1) / 1).toNat = q - p := by first | omega | (simp; done) | (simp; omega)
    simp only [hlt, if_true, e3]
    refine List.map_congr_left fun k _ => ?_
    omega
  · have : q - p = 0 := by omega
    simp [hlt, this]
def cutS (z : Str) (lo hi : Option Int) : Str :=
  ⟨((z.cps.toList.drop (HT.sIx z.length 0 lo)).take (HT.sIx z.length z.length hi - HT.sIx z.length 0 lo)).toArray⟩
theorem sliceText_cut (z : Str) (lo hi : Option Int) : PySem.StrLaws.sliceText z lo hi = cutS z lo hi := by
  have h1 : HT.sIx z.length 0 lo ≤ z.length := HT.sIx_le _ _ (Nat.zero_le _) _
  have h2 : HT.sIx z.length z.length hi ≤ z.length := HT.sIx_le _ _ (Nat.le_refl _) _
  have hp : HT.sIx z.length 0 lo ≤ max (HT.sIx z.length 0 lo) (HT.sIx z.length z.length hi) := Nat.le_max_left _ _
  have hq : max (HT.sIx z.length 0 lo) (HT.sIx z.length z.length hi) ≤ z.length := Nat.max_le.mpr ⟨h1, h2⟩
  have hd : max (HT.sIx z.length 0 lo) (HT.sIx z.length z.length hi) - HT.sIx z.length 0 lo = HT.sIx z.length z.length hi - HT.sIx z.length 0 lo := by omega
  have e : Builtin.Str.strSliceIndices lo hi 1 z.length =
      Builtin.Str.strSliceIndices (some ((HT.sIx z.length 0 lo : Nat) : Int)) (some ((max (HT.sIx z.length 0 lo) (HT.sIx z.length z.length hi) : Nat) : Int)) 1 z.length := by
    rw [PySem.StrLaws.strSliceIndices_plain hp hq, hd, sidx]
  have e2 : PySem.StrLaws.sliceText z lo hi =
      PySem.StrLaws.sliceText z (some ((HT.sIx z.length 0 lo : Nat) : Int)) (some ((max (HT.sIx z.length 0 lo) (HT.sIx z.length z.length hi) : Nat) : Int)) := by
    unfold PySem.StrLaws.sliceText
    rw [e]
  rw [e2, PySem.StrLaws.sliceText_nat z hp hq, hd]
  rfl
theorem cutS_length (z : Str) (lo hi : Option Int) : (cutS z lo hi).length ≤ z.length := by
  show (((z.cps.toList.drop (HT.sIx z.length 0 lo)).take (HT.sIx z.length z.length hi - HT.sIx z.length 0 lo)).toArray).size ≤ z.cps.size
  rw [List.size_toArray, List.length_take, List.length_drop, Array.length_toList]
  omega
def rSlS : V → Option Int → Option Int → Hp → VK → Prop := fun x lo hi H Q => ∃ z, x = .str z ∧ z.length ≤ sizeLine ∧ Q (.str (cutS z lo hi)) H
theorem sl_str {X : Cx} : SlR X rSlS := by
  intro pins s σ H x v vl vu lo hi sl Q I rx hs pl pu h
  obtain ⟨z, rfl, hz, q⟩ := h
  obtain ⟨t, rfl⟩ := rx
  obtain ⟨os, hos, hcs, hds⟩ := hs
  obtain ⟨l, rfl, rfl⟩ := IsPart.raw pl
  obtain ⟨u, rfl, rfl⟩ := IsPart.raw pu
  refine ⟨"str", _, F.slot_str_getitem.lookup, typeIs_str _ _ _, ?_⟩
  refine wpAny_getItem_str_slice (l := l) (u := u) (st := none) ⟨os, hos, hcs, hds⟩ rfl ?_
  have hl : (PySem.StrLaws.sliceText z (l.map (·.1)) (u.map (·.1))).length ≤ sizeLine := by
    rw [sliceText_cut]
    exact Nat.le_trans (cutS_length z _ _) hz
  rw [← sliceText_cut] at q
  unfold PySem.StrLaws.sliceText at q hl
  show Made.post (if ((1 : Int) == 1 && (Builtin.Str.strSliceIndices (l.map (·.1)) (u.map (·.1)) 1 z.length).length == z.length) = true then Made.val (.str z t)
    else Made.str ⟨((Builtin.Str.strSliceIndices (l.map (·.1)) (u.map (·.1)) 1 z.length).filterMap (z.cps[·]?)).toArray⟩) (EP X pins σ Q) s
  by_cases c : ((1 : Int) == 1 && (Builtin.Str.strSliceIndices (l.map (·.1)) (u.map (·.1)) 1 z.length).length == z.length) = true
  · rw [if_pos c] at q ⊢
    exact ⟨.str z, H, I, ⟨t, rfl⟩, q⟩
  · rw [if_neg c] at q hl ⊢
    exact ⟨hl, .str _, H, I.tok _, ⟨_, rfl⟩, q⟩
end L2
namespace Att
open PySem PySem.W PySem.Calls PyProof.Rows
theorem ints_of_wellAll {P : Params} {h : Heap} : ∀ (ns : List Int) (vs : List Value), WellAll P h vs (ns.map WData.int) → IntsAre vs ns := by
  intro ns
  induction ns with
  | nil =>
    intro vs w
    rw [List.map_nil] at w
    cases w
    exact .nil
  | cons n ns ih =>
    intro vs w
    rw [List.map_cons] at w
    cases w with
    | cons a b =>
      cases a
      exact .cons _ _ (ih _ b)
theorem script_of {l : OpenLaw} {n : Nat} (hn : l.most = some n) {P : Params} {h : Heap} {args : List WData} {vals : List Value}
    (hpre : l.row.toRowW.claim.pre args = true) (hwl : WellAll P h vals args) :
    ∃ a vs ns, vals = [Value.ref a] ∧ args = [WData.list (ns.map WData.int)] ∧ h.get? a = some { cls := .type "list", data := .seq vs.toArray } ∧ IntsAre vs ns ∧ ns.length ≤ n := by
  have hsh : WShape.hasAll [] args [.list .int] = true := (pre_splitW hpre).1
  have hc : l.pre.holds [] { args := args } = true := (pre_splitW hpre).2
  obtain ⟨d, r, rfl, h1, h2⟩ := hasAllW_cons hsh
  obtain rfl := hasAllW_nil h2
  obtain ⟨xs, rfl, h3⟩ := hasW_list h1
  obtain ⟨ns, rfl⟩ := items_int h3
  have hlen : ns.length ≤ n := by
    unfold OpenLaw.pre at hc
    have h4 : (WTm.not (.lt (.lit (.int (n : Int))) (.len (.arg 0)))).holds [] { args := [.list (ns.map .int)] } = true := by
      have h4 := (holds_andW hc).1
      rw [hn] at h4
      exact h4
    have h5 := condW_of h4 (w_not (w_lt w_lit (w_len_list (w_arg rfl))))
    rw [List.length_map] at h5
    refine Nat.le_of_not_lt fun q => ?_
    have q' : (n : Int) < ((ns.length : Nat) : Int) := by omega
    first
      | (rw [decide_eq_true q'] at h5; exact absurd h5 (by decide))
      | (simp at h5; omega)
  cases hwl with
  | cons w1 w2 =>
    cases w2
    cases w1 with
    | list ho hall => exact ⟨_, _, ns, rfl, rfl, ho, ints_of_wellAll ns _ hall, hlen⟩
theorem post_true (l : OpenLaw) (args : List WData) : l.row.toRowW.claim.post args (.bool true) args = true :=
  postW_of (r := l.row.toRowW) (X := (true == true))
    (show WShape.has [] (.bool true) .bool = true by first | rfl | decide | simp [WShape.has, WShape.arms, WShape.armsAll])
    (show (WTm.eq .res (.lit (.bool true))).value [] { args := args, res := some (.bool true), after := args } = some (.bool (true == true)) from w_eq_bool (w_res rfl) w_lit) rfl
theorem attach_call {l : OpenLaw} {n : Nat} {q : Program} {loose : List Str} {XP : (Str → Option Value) → Heap → Prop} {YP : World → Heap → Prop} {d : DefRec}
    (hn : l.most = some n) (hdf : d.params.defaults = [])
    (call : ∀ (w : World) (s₀ s₁ : Shared) (mg mb : Str → Option Value) (fa : Addr) (o : Obj) (pm cd doc : Value) (a : Addr) (vs : List Value) (ns : List Int),
      Ground q loose [] XP w s₀ mg mb s₁.heap → YP w s₁.heap →
      s₁.heap.get? fa = some o → o.data = .func (docDef d.name d.params d.body d.scope pm cd doc) → s₁.heap.CodeRec cd d.name → mg d.name = some (.ref fa) →
      s₁.heap.get? a = some { cls := .type "list", data := .seq vs.toArray } → IntsAre vs ns → ns.length ≤ n → s₁.gens = #[] →
      codeAny (model l.prog w) callerA (.call (.ref fa) ⟨[.ref a], []⟩) (fun r s' => r = .ok (.ret (.bool true)) ∧ OldK s₁.heap s'.heap ∧ s'.os = s₁.os ∧ AllBare s'.gens) s₁) :
    WalkO q loose XP YP l.row.toRowW d [] (fun f vs => PySem.call f vs) := by
  intro w s₀ s₁ mg mb G Y fa o pm cd doc dV kV ho hd hcd hD hmg hg args vals as hpre hlay hrd hwl hlo
  obtain rfl : dV = .none := Dflts.none hD hdf
  obtain rfl : kV = .none := Dflts.noKw hD
  obtain ⟨a, vs, ns, rfl, rfl, hobj, hints, hlen⟩ := script_of hn hpre hwl
  refine enter_call (codeAny_mono (call w s₀ s₁ mg mb fa o pm cd doc a vs ns G Y ho (fd_plain hd) hcd hmg hobj hints hlen hg) fun r s' hq => ?_)
  obtain ⟨rfl, h2, h3, h4⟩ := hq
  exact ⟨.inl ⟨.bool true, .bool true, [], rfl, fun _ => rfl, .bool true, post_true l _, fun _ => ⟨List.Pairwise.nil, fun _ hm => (nomatch hm)⟩⟩, h2, h3, h4⟩
end Att
namespace L2
open PySem PySem.Spec PyProof.Rows
theorem vals_ints : ∀ {vs : List Value} {ns : List Int}, IntsAre vs ns → Vals (ns.map V.int) vs
  | _, _, .nil => .nil
  | _, _, .cons n t h => .cons ⟨t, rfl⟩ (vals_ints h)
def Only (H : Hp) : Prop := ∀ b, H b = none ∨ ∃ o xs, H b = some (.frz o (.lst xs))
theorem law_call {P : Program} {w : World} {K : PySem.W.Frag} {mg mb : Str → Option Value} {CX : CXT} {k : Nat} {fa a : Addr} {fd : FuncData} {x : Str} {sp : Sp} {s₁ : Shared} {vs : List Value} {ns : List Int}
    (KX : K.In s₁.heap) (hns : s₁.heap.Ns mainGlobals mg) (hb : s₁.heap.Ns builtinsNs mb) (hbb : ∀ x : Str, x ≠ "__name__" → mb x = bootBuiltins x) (hlim : s₁.heap.NoLimit) (hg : s₁.gens = #[])
    (ha : s₁.heap.get? a = some { cls := .type "list", data := .seq vs.toArray }) (hi : IntsAre vs ns) (hl : ns.length ≤ sizeLine) (hr : Room k callerA)
    (F : ∀ base : Heap, K.In base → base.Ns mainGlobals mg → FnOk P w K mg base CX k fa fd [x] sp) (hbind : ∀ (s : Shared) (u : Value), BindsTo s fd ⟨[u], []⟩ [(x, u)])
    (hsp : ∀ H : Hp, Only H → SqL K H a (ns.map V.int) → sp [.ref a] H (fun v _ => v = .bl true) fun _ _ _ => False)
    (hCX : ∀ H e s', CX [] H s₁ (fun _ _ _ => False) e s' → False) :
    codeAny (model P w) callerA (.call (.ref fa) ⟨[.ref a], []⟩) (fun r s' => r = .ok (.ret (.bool true)) ∧ OldK s₁.heap s'.heap ∧ s'.os = s₁.os ∧ AllBare s'.gens) s₁ := by
  have rv := vals_ints hi
  have lenV := hi.length
  have core : ∀ H : Hp, Only H → SqL K H a (ns.map V.int) → HOk P w H s₁.heap → (∀ b, H b ≠ none → b = a) → (H a ≠ none → K.lookup a = none) →
      codeAny (model P w) callerA (.call (.ref fa) ⟨[.ref a], []⟩) (fun r s' => r = .ok (.ret (.bool true)) ∧ OldK s₁.heap s'.heap ∧ s'.os = s₁.os ∧ AllBare s'.gens) s₁ := by
    intro H hO hS hok hA hK
    have base_of : ∀ {b : Addr} {o : Obj}, s₁.heap.get? b = some o → H b = none → (hidT s₁.heap H).get? b = some o := fun e n => hidT_get e n
    have noA : ∀ {b : Addr} {o : Obj} {es : Array DictEntry} {ep : Nat}, s₁.heap.get? b = some o → o.data = .dict es ep → H b = none := fun {b o es ep} e d => by
      cases q : H b with
      | none => rfl
      | some u =>
        have e' : b = a := hA b (by rw [q]; simp)
        subst e'
        rw [ha] at e; cases e
        have d' : Data.seq vs.toArray _ = Data.dict es ep := d
        cases d'
    have nsK : ∀ {b : Addr} {m : Str → Option Value}, s₁.heap.Ns b m → (hidT s₁.heap H).Ns b m := fun {b m} ⟨o, es, ep, e, d, r⟩ => ⟨o, es, ep, base_of e (noA e d), d, r⟩
    have hKb : K.In (hidT s₁.heap H) := fun b o e => base_of (KX b o e) (by
      cases q : H b with
      | none => rfl
      | some u =>
        have e' : b = a := hA b (by rw [q]; simp)
        subst e'
        rw [hK (by rw [q]; simp)] at e; cases e)
    have hM : Mod K mg (hidT s₁.heap H) := ⟨hKb, nsK hns, ⟨mb, nsK hb, hbb⟩, let ⟨mc, h1, h2⟩ := hlim; ⟨mc, nsK h1, h2⟩⟩
    have e0 : Env0 P w K mg (hidT s₁.heap H) callerA [] s₁ H := ⟨rfl, hM, fun b o e => of_hidT e, Nat.le_of_eq (hidT_size _ _), trivial, fun b hb => absurd (show b ∈ ([] : List Addr) from hb) (by simp), hok, .of_eq hg⟩
    refine codeAny_mono ((F _ hKb (nsK hns)).run callerA [] s₁ H ⟨[.ref a], []⟩ [.ref a] [.ref a] _ _ hr e0 (hbind s₁ (.ref a)) (.cons rfl .nil) (hsp H hO hS)) fun r s' h => ?_
    cases r with
    | error e => exact (hCX H e s' h).elim
    | ok fl =>
      cases fl with
      | next => exact False.elim h
      | brk => exact False.elim h
      | cont => exact False.elim h
      | ret u =>
        obtain ⟨v, H', os, bare, un, hok', r', q⟩ := h
        have q' : v = .bl true := q
        subst q'
        obtain rfl : u = Value.bool true := r'
        refine ⟨rfl, OldK.of_keep fun b o e => ?_, os, bare⟩
        cases q : H b with
        | none => exact un.keep b o e q (by intro z; exact absurd (show b ∈ ([] : List Addr) from z) (by simp)) (by simp)
        | some u =>
          rcases hO b with z | ⟨ob, xs, z⟩
          · rw [q] at z; cases z
          · have z2 := un.frzs b ob _ z
            obtain ⟨e1, _⟩ := hok b _ z
            obtain ⟨e2, _⟩ := hok' b _ z2
            rw [e] at e1; cases e1
            exact e2
  cases hk : K.lookup a with
  | some o =>
    have e := KX a o hk
    rw [ha] at e
    cases e
    refine core (fun _ => none) (fun _ => .inl rfl) (.inr ⟨_, vs.toArray, _, hk, rfl, rfl, rfl, by rw [List.size_toArray, lenV]; exact hl, by simpa using rv⟩) (fun b u z => by have z' : (none : Option HO) = some u := z; cases z') (fun b z => absurd rfl z) fun z => absurd rfl z
  | none =>
    refine core (fun b => if b = a then some (.frz { cls := .type "list", data := .seq vs.toArray } (.lst (ns.map V.int))) else none) (fun b => ?_) (.inl (.inr ⟨{ cls := .type "list", data := .seq vs.toArray }, if_pos rfl⟩)) (fun b u z => ?_) (fun b z => ?_) fun _ => hk
    · by_cases hb : b = a
      · exact .inr ⟨_, _, if_pos hb⟩
      · exact .inl (if_neg hb)
    · by_cases hb : b = a
      · have z' := (if_pos hb).symm.trans z
        cases z'
        subst hb
        exact ⟨ha, by rw [List.length_map]; exact hl, vs, _, rv, ha⟩
      · have z' := (if_neg hb).symm.trans z
        cases z'
    · by_cases hb : b = a
      · exact hb
      · exact absurd (if_neg hb) z
end L2
namespace L2
open PySem PySem.Spec PyProof.Rows
theorem walk_of {l : PySem.W.OpenLaw} {n k : Nat} {q : Program} {loose : List Str} {XP : (Str → Option Value) → Heap → Prop} {YP : World → Heap → Prop} {d : DefRec} {K : Params → PySem.W.Frag} {CX : World → CXT} {sp : World → Sp} {x : Str}
    (hn : l.most = some n) (hn2 : n ≤ sizeLine) (hdf : d.params.defaults = []) (hr : Room k callerA)
    (hY : ∀ (w : World) (h : Heap), YP w h → (K w.params).In h)
    (F : ∀ (w : World) (mg : Str → Option Value) (fa : Addr) (h : Heap), (K w.params).In h → h.Ns mainGlobals mg → mg d.name = some (.ref fa) →
      ∃ fd : FuncData, (∀ (s : Shared) (u : Value), BindsTo s fd ⟨[u], []⟩ [(x, u)]) ∧
        ∀ base : Heap, (K w.params).In base → base.Ns mainGlobals mg → FnOk l.prog w (K w.params) mg base (CX w) k fa fd [x] (sp w))
    (hsp : ∀ (w : World) (H : Hp) (a : Addr) (ns : List Int), ns.length ≤ n → Only H → SqL (K w.params) H a (ns.map V.int) → sp w [.ref a] H (fun v _ => v = .bl true) fun _ _ _ => False)
    (hCX : ∀ (w : World) (H : Hp) (s : Shared) (e : Value) (s' : Shared), CX w [] H s (fun _ _ _ => False) e s' → False) :
    PySem.W.WalkO q loose XP YP l.row.toRowW d [] (fun f vs => PySem.call f vs) := by
  refine Att.attach_call hn hdf fun w s₀ s₁ mg mb fa o pm cd doc a vs ns G Y ho hd hcd hmg hobj hints hlen hg => ?_
  have KX := hY w _ Y
  obtain ⟨fd, hb, hF⟩ := F w mg fa _ KX G.T.g hmg
  exact law_call KX G.T.g G.T.b G.T.builtins G.T.nolimit hg hobj hints (Nat.le_trans hlen hn2) hr hF hb (fun H hO hS => hsp w H a ns hlen hO hS) fun H e s' => hCX w H s₁ e s'
end L2
namespace L2
open PySem PySem.Spec PyProof.Rows
def inClass (s : Stmt) (j : Nat) : Stmt := match s with
  | .ClassDef _ _ _ body _ _ _ _ _ _ _ => body.getD j (.Pass ⟨0, 0, 0, 0⟩)
  | _ => .Pass ⟨0, 0, 0, 0⟩
def defArgs (s : Stmt) : Arguments := match s with
  | .FunctionDef _ a _ _ _ _ _ _ _ _ => a
  | _ => { posonlyargs := [], args := [], vararg := none, kwonlyargs := [], kw_defaults := [], kwarg := none, defaults := [] }
def defBody (s : Stmt) : List Stmt := match s with
  | .FunctionDef _ _ b _ _ _ _ _ _ _ => b
  | _ => []
def defScope (s : Stmt) : Scope := match s with
  | .FunctionDef _ _ _ _ _ _ sc _ _ _ => sc
  | _ => { kind := .function, names := [], isGenerator := false, isCoroutine := false }
abbrev CX0 : CXT := fun _ _ _ _ _ _ => False
abbrev E0 : XK := fun _ _ _ => False
theorem pass0 {X : Cx} : Passes CX0 X E0 := fun _ _ _ _ _ _ _ h => h.elim
structure Fun (K : PySem.W.Frag) (x qual : Str) (st : Stmt) (f : Addr) (fd : FuncData) : Prop where
  ex : ∃ (oc : Value) (od : Option Addr) (kV doc pm : Value) (an : Option Addr) (cdv ct : Value) (osl : Array (Option Value)),
    fd = PySem.W.fnOf x qual (defArgs st) (defBody st) (defScope st) .none kV doc pm an cdv ct ∧ K.lookup f = some ⟨oc, od, .func fd, osl⟩ ∧ PySem.W.codeIn K cdv qual = true
  kp : PySem.W.keepIn K (.ref f) = true
section
variable {P : Program} {w : World} {K : PySem.W.Frag} {mg : Str → Option Value} {base : Heap}
theorem Fun.ok {x qual : Str} {st : Stmt} {f : Addr} {fd : FuncData} {N ps : List Str} {k : Nat} {sp : Sp} (F : Fun K x qual st f fd) (S : FnScope N ps (defScope st)) (len : ∀ vs H Q E, sp vs H Q E → vs.length = ps.length)
    (hbody : ∀ (cdv : Value) (A : Around) (outer : List Env) (s : Shared) (H : Hp) (vs : List V) (Q : VK) (E : XK), Room k (A.deeper (envOfC qual (defScope st) s.heap.objs.size f cdv)) → sp vs H Q E →
      ∃ t, PSs (cxOf CX0 P w K mg base N qual (defScope st) f cdv A outer s H E).nox (defBody st) t ∧ t { nx := fun _ H' => Q .non H', rt := Q } (start N vs) H) : FnOk P w K mg base CX0 (k + 1) f fd ps sp := by
  obtain ⟨oc, od, kV, doc, pm, an, cdv, ct, osl, rfl, lk, hcd⟩ := F.ex
  refine fn_of lk hcd S len fun A outer s H vs Q E hr hsp => ?_
  obtain ⟨t, h, q⟩ := hbody cdv A outer s H vs Q E hr hsp
  exact ⟨t, h.nox, q⟩
theorem Fun.binds {x qual : Str} {st : Stmt} {f : Addr} {fd : FuncData} {ps : List Str} (F : Fun K x qual st f fd)
    (h : ∀ (kV doc pm : Value) (an : Option Addr) (cdv ct : Value) (us : List Value), us.length = ps.length → bindArgs (PySem.W.fnOf x qual (defArgs st) (defBody st) (defScope st) .none kV doc pm an cdv ct) ⟨us, []⟩ = pure (ps.zip us)) : Binds K fd ps [] := by
  obtain ⟨oc, od, kV, doc, pm, an, cdv, ct, osl, rfl, lk, hcd⟩ := F.ex
  exact .all (h kV doc pm an cdv ct)
theorem fun_mk {x qual : Str} {st : Stmt} {f : Addr} {oc : Value} {od an : Option Addr} {osl : Array (Option Value)} {kV doc pm cdv ct : Value} (l : K.lookup f = some ⟨oc, od, .func (PySem.W.fnOf x qual (defArgs st) (defBody st) (defScope st) .none kV doc pm an cdv ct), osl⟩)
    (c : PySem.W.codeIn K cdv qual = true) (k : PySem.W.keepIn K (.ref f) = true) : Fun K x qual st f (PySem.W.fnOf x qual (defArgs st) (defBody st) (defScope st) .none kV doc pm an cdv ct) := ⟨⟨oc, od, kV, doc, pm, an, cdv, ct, osl, rfl, l, c⟩, k⟩
end
theorem hu_of {A : Around} {k : Nat} (hr : Room k A) : A.units + 1 < cLine := Nat.lt_of_le_of_lt (Nat.add_le_add_left (by decide : 1 ≤ 64) _) hr.units
theorem small1000 {n : Nat} (h : n ≤ 1000) : n < sizeLine := Nat.lt_of_le_of_lt h (by decide)
section
variable {X : Cx}
theorem pv (i : Nat) {x : Str} {pos : Pos} (hN : X.N[i]? = some x := by rfl) (hv : Vis X.env.scope x := by first | exact Or.inl rfl | exact Or.inr (Or.inl rfl) | exact Or.inr (Or.inr rfl)) (hd : (x == ("__debug__" : Str)) = false := by decide)
    (hcd : (x == ("__classdict__" : Str)) = false := by decide) : PE X (.Name x pos) (tVar i) := pe_var hN hv hd hcd
end
theorem iteF {A B : Prop} (h : B) : if false = true then A else B := by
  rw [if_neg Bool.false_ne_true]
  exact h
theorem iteT {A B : Prop} (h : A) : if true = true then A else B := by
  rw [if_pos rfl]
  exact h
theorem ite2 {c A B : Prop} [Decidable c] (h1 : c → A) (h2 : ¬ c → B) : if c then A else B := by
  by_cases h : c
  · rw [if_pos h]
    exact h1 h
  · rw [if_neg h]
    exact h2 h
def Same (H H' : Hp) : Prop := ∀ b o, H b = some o → H' b = some o
theorem Same.refl (H : Hp) : Same H H := fun _ _ h => h
theorem Same.trans {H H1 H2 : Hp} (a : Same H H1) (b : Same H1 H2) : Same H H2 := fun c o h => b c o (a c o h)
theorem Same.free {H H' : Hp} (e : Same H H') {l : Addr} (h : H' l = Option.none) : H l = Option.none := by
  cases q : H l with
  | none => rfl
  | some o =>
    rw [e l o q] at h
    cases h
theorem Same.seq {K : PySem.W.Frag} {H H' : Hp} {a : Addr} {xs : List V} (e : Same H H') (h : SqL K H a xs) : SqL K H' a xs := by
  rcases h with (h | ⟨o, h⟩) | h
  · exact .inl (.inl (e _ _ h))
  · exact .inl (.inr ⟨o, e _ _ h⟩)
  · exact .inr h
section
variable {κ : Type} [DecidableEq κ]
theorem valV_in {kvs : List (κ × V)} {k : κ} {v : V} (h : valV kvs k = some v) : k ∈ kvs.map (·.1) := by
  have q : (kvs.any fun kv => decide (kv.1 = k)) = true := by
    rw [valV_any, h]
    all_goals rfl
  obtain ⟨p, hp, e⟩ := List.any_eq_true.mp q
  exact List.mem_map.mpr ⟨p, hp, of_decide_eq_true e⟩
end
theorem at_of {xs : List V} {z : Int} {j : Nat} {v : V} (e : z = (j : Int)) (h : xs[j]? = some v) : atI xs z = some v := by
  rw [e]
  exact atI_nat h
theorem Same.made {H H1 : Hp} {x dx C : Addr} (nx : H x = Option.none) (nd : H dx = Option.none) (k : ∀ b o, (upd (upd H dx (.own x)) x (.ins C dx [])) b = some o → b ≠ x → H1 b = some o) : Same H H1 := fun b o e =>
  k b o (by rw [upd_ne (ne_of_none e nx), upd_ne (ne_of_none e nd)]; exact e) (ne_of_none e nx)
end L2
set_option Elab.async false
set_option linter.all false
set_option maxRecDepth 100000
set_option maxHeartbeats 4000000
namespace L2
open PySem PySem.Spec PyProof.Rows
structure QE (X : Cx) (e : Expr) (t : TE) : Prop where
  h : PE X e t
structure QT (X : Cx) (e : Expr) (t : TT) : Prop where
  h : PT X e t
structure QW (X : Cx) (e : Expr) (t : TT) : Prop where
  h : PW X e t
structure QA (X : Cx) (e : List Expr) (t : TA) : Prop where
  h : PA X e t
structure QS (X : Cx) (e : Stmt) (t : TS) : Prop where
  h : PS X e t
structure QSs (X : Cx) (e : List Stmt) (t : TS) : Prop where
  h : PSs X e t
structure QG (X : Cx) (e : Expr) (t : TG) : Prop where
  h : PG X e t
structure QGs (X : Cx) (e : List Expr) (t : TGs) : Prop where
  h : PGs X e t
structure QI (X : Cx) (g e : Expr) (t : TI) : Prop where
  h : PI X g e t
structure QO (X : Cx) (e : Option Expr) (t : TO) : Prop where
  h : PO X e t
structure QTs (X : Cx) (e : List Expr) (t : TT) : Prop where
  h : PTs X e t
theorem QW.pt {X : Cx} {e : Expr} {t : TT} (x : QW X e t) : QT X e t := ⟨x.h.pt⟩
section
variable {X : Cx}
theorem q_pe_int {i j pos} : QE X (.Constant (.int i) j pos) (tC (.int i)) := ⟨pe_int ⟩
end
section
variable {X : Cx}
theorem q_pe_bl {b j pos} : QE X (.Constant (.bool b) j pos) (tC (.bl b)) := ⟨pe_bl ⟩
end
section
variable {X : Cx}
theorem q_pe_non {j pos} : QE X (.Constant .none j pos) (tC .non) := ⟨pe_non ⟩
end
section
variable {X : Cx}
theorem q_pe_str {x j pos} : QE X (.Constant (.str x) j pos) (tC (.str x)) := ⟨pe_str ⟩
end
section
variable {X : Cx}
theorem q_pe_glob {x : Str} {v : V} {u : Value} {pos : Pos} (hg : Gl X x) (hm : X.mg x = some u) (r : RelV v u) (hd : (x == ("__debug__" : Str)) = false := by decide) : QE X (.Name x pos) (tC v) := ⟨pe_glob (hg := hg) (hm := hm) (r := r) (hd := hd)⟩
end
section
variable {X : Cx}
theorem q_pe_bltn {x : Str} {v : V} {u : Value} {pos : Pos} (hg : Gl X x) (hm : X.mg x = none) (hv : bootBuiltins x = some u) (r : RelV v u) (hn : x ≠ "__name__" := by decide) (hd : (x == ("__debug__" : Str)) = false := by decide) : QE X (.Name x pos) (tC v) := ⟨pe_bltn (hg := hg) (hm := hm) (hv := hv) (r := r) (hn := hn) (hd := hd)⟩
end
section
variable {X : Cx}
variable {a b : Expr} {ta tb : TE} {pos : Pos}
theorem q_pt_val {e : Expr} {t : TE} (h : QE X e t) (he : ∀ whole, isTrue e X.env whole = (do let v ← whole; standAt e.pos; holding [v] (truthy v)) := by intro _; rfl) : QT X e (tB t) := ⟨pt_val (h := h.h) (he := he)⟩
end
section
variable {X : Cx}
variable {a b : Expr} {ta tb : TE} {pos : Pos}
variable {tA tB' : TT} {rest : List Expr}
theorem q_pw_and1 (ha : QT X a tA) : QW X (.BoolOp .And [a] pos) tA := ⟨pw_and1 (ha := ha.h)⟩
end
section
variable {X : Cx}
variable {a b : Expr} {ta tb : TE} {pos : Pos}
variable {tA tB' : TT} {rest : List Expr}
theorem q_pw_or1 (ha : QT X a tA) : QW X (.BoolOp .Or [a] pos) tA := ⟨pw_or1 (ha := ha.h)⟩
end
section
variable {X : Cx}
variable {a b : Expr} {ta tb : TE} {pos : Pos}
variable {tA tB' : TT} {rest : List Expr}
theorem q_pw_and (ha : QT X a tA) (hb : QW X (.BoolOp .And (b :: rest) pos) tB') : QW X (.BoolOp .And (a :: b :: rest) pos) (tAnd tA tB') := ⟨pw_and (ha := ha.h) (hb := hb.h)⟩
end
section
variable {X : Cx}
variable {a b : Expr} {ta tb : TE} {pos : Pos}
variable {tA tB' : TT} {rest : List Expr}
theorem q_pw_or (ha : QT X a tA) (hb : QW X (.BoolOp .Or (b :: rest) pos) tB') : QW X (.BoolOp .Or (a :: b :: rest) pos) (tOr tA tB') := ⟨pw_or (ha := ha.h) (hb := hb.h)⟩
end
section
variable {X : Cx}
variable {a b : Expr} {ta tb : TE} {pos : Pos}
variable {tA tB' : TT} {rest : List Expr}
theorem q_pt_not (ha : QT X a tA) : QT X (.UnaryOp .Not a pos) (tNot tA) := ⟨pt_not (ha := ha.h)⟩
end
section
variable {X : Cx}
variable {a b : Expr} {ta tb : TE} {pos : Pos}
variable {tA tB' : TT} {rest : List Expr}
theorem q_pe_one {op} {t : TE} (h : QE X a t) : QE X (.BoolOp op [a] pos) t := ⟨pe_one (h := h.h)⟩
end
section
variable {X : Cx}
variable {a b : Expr} {ta tb : TE} {pos : Pos}
variable {tA tB' : TT} {rest : List Expr}
theorem q_pe_and (ha : QE X a ta) (hb : QE X (.BoolOp .And (b :: rest) pos) tb) : QE X (.BoolOp .And (a :: b :: rest) pos) (tAndV ta tb) := ⟨pe_and (ha := ha.h) (hb := hb.h)⟩
end
section
variable {X : Cx}
variable {a b : Expr} {ta tb : TE} {pos : Pos}
variable {tA tB' : TT} {rest : List Expr}
theorem q_pe_not (ha : QE X a ta) : QE X (.UnaryOp .Not a pos) (tNotV ta) := ⟨pe_not (ha := ha.h)⟩
end
section
variable {X : Cx}
variable {a b : Expr} {ta tb : TE} {pos : Pos}
variable {tA tB' : TT} {rest : List Expr}
theorem q_pe_ifExp {c : Expr} (hc : QT X c tA) (ha : QE X a ta) (hb : QE X b tb) : QE X (.IfExp c a b pos) (tIf tA ta tb) := ⟨pe_ifExp (hc := hc.h) (ha := ha.h) (hb := hb.h)⟩
end
section
variable {X : Cx} {st : Stmt} {rest : List Stmt} {t u : TS} {e : Expr} {te : TE} {pos : Pos}
theorem q_pss_nil  : QSs X [] tNext := ⟨pss_nil ⟩
end
section
variable {X : Cx} {st : Stmt} {rest : List Stmt} {t u : TS} {e : Expr} {te : TE} {pos : Pos}
theorem q_pss_cons (h1 : QS X st t) (h2 : QSs X rest u) : QSs X (st :: rest) (tSeq t u) := ⟨pss_cons (h1 := h1.h) (h2 := h2.h)⟩
end
section
variable {X : Cx} {st : Stmt} {rest : List Stmt} {t u : TS} {e : Expr} {te : TE} {pos : Pos}
theorem q_pss_one (h1 : QS X st t) : QSs X [st] t := ⟨pss_one (h1 := h1.h)⟩
end
section
variable {X : Cx} {st : Stmt} {rest : List Stmt} {t u : TS} {e : Expr} {te : TE} {pos : Pos}
theorem q_ps_expr (he : QE X e te) (hs : swapsWith e none pos.line X.env = pure false := by rfl) : QS X (.Expr e pos) (tDrop te) := ⟨ps_expr (he := he.h) (hs := hs)⟩
end
section
variable {X : Cx} {st : Stmt} {rest : List Stmt} {t u : TS} {e : Expr} {te : TE} {pos : Pos}
theorem q_ps_ret (he : QE X e te) : QS X (.Return (some e) pos) (tRet te) := ⟨ps_ret (he := he.h)⟩
end
section
variable {X : Cx} {st : Stmt} {rest : List Stmt} {t u : TS} {e : Expr} {te : TE} {pos : Pos}
theorem q_ps_if {c : Expr} {a b : List Stmt} {tc : TT} (hc : QT X c tc) (ha : QSs X a t) (hb : QSs X b u) : QS X (.If c a b pos) (tIfS tc t u) := ⟨ps_if (hc := hc.h) (ha := ha.h) (hb := hb.h)⟩
end
section
variable {X : Cx} {st : Stmt} {rest : List Stmt} {t u : TS} {e : Expr} {te : TE} {pos : Pos}
theorem q_ps_never  : QS X st tNever := ⟨ps_never ⟩
end
section
variable {X : Cx} {pos : Pos}
theorem q_pg_name {i : Nat} {x : Str} (hN : X.N.Nodup) (hi : X.N[i]? = some x) (hx : Loc X.env.scope x) (hf : X.fn x = true ∨ X.env.scope.names.lookup x = some .local := by first | exact .inl rfl | exact .inr rfl | assumption) : QG X (.Name x pos) (gName i) := ⟨pg_name (hN := hN) (hi := hi) (hx := hx) (hf := hf)⟩
end
section
variable {X : Cx} {pos : Pos}
theorem q_pgs_nil  : QGs X [] gNil := ⟨pgs_nil ⟩
end
section
variable {X : Cx} {pos : Pos}
theorem q_pgs_cons {e : Expr} {es : List Expr} {t : TG} {u : TGs} (h1 : QG X e t) (h2 : QGs X es u) (hs : (assignEach (e :: es) X.env).map (·.2) = assign e X.env :: (assignEach es X.env).map (·.2) := by rfl) : QGs X (e :: es) (gCons t u) := ⟨pgs_cons (h1 := h1.h) (h2 := h2.h) (hs := hs)⟩
end
section
variable {X : Cx} {pos : Pos}
theorem q_pg_tup {es : List Expr} {k : Nat} {t : TGs} {n : Nat} (hc : X.calm = true) (h : QGs X es t) (hn : (assignEach es X.env).length = n := by rfl) (hst : (assignEach es X.env).findIdx? (·.1) = none := by rfl) : QG X (.Tuple es k pos) (gTup X.K n t) := ⟨pg_tup (hc := hc) (h := h.h) (hn := hn) (hst := hst)⟩
end
section
variable {X : Cx} {pos : Pos}
theorem q_pg_sub {o i : Expr} {to ti : TE} {t : TSet} (ho : QE X o to) (hi : QE X i ti) (hs : PSet X t) (ha : ∀ v, assign (.Subscript o i pos) X.env v = (do
      let ov ← holding [v] (eval o X.env)
      let iv ← holding [v, ov] (eval i X.env)
      standAt pos
      holding [v, ov, iv] (setItem ov iv v)
      release [v, ov, iv] []) := by intro _; rfl) : QG X (.Subscript o i pos) (gSub to ti t) := ⟨pg_sub (ho := ho.h) (hi := hi.h) (hs := hs) (ha := ha)⟩
end
section
variable {X : Cx} {pos : Pos}
theorem q_ps_asg {tg e : Expr} {te : TE} {g : TG} (he : QE X e te) (hg : QG X tg g) (hs : swapsWithSole [tg] e pos.line X.env = pure false := by rfl) (hw : swappedStores [tg] e X.env = pure none := by rfl) (h1 : (assignEach [tg] X.env).map (·.2) = [assign tg X.env] := by rfl) : QS X (.Assign [tg] e pos) (tAsg te g) := ⟨ps_asg (he := he.h) (hg := hg.h) (hs := hs) (hw := hw) (h1 := h1)⟩
end
section
variable {X : Cx} {pos : Pos}
theorem q_ps_set {i : Nat} {x : Str} {e : Expr} {te : TE} {pos' : Pos} (hN : X.N.Nodup) (hi : X.N[i]? = some x) (hx : Loc X.env.scope x) (he : QE X e te) (hs : swapsWith e (some (.Name x pos')) pos.line X.env = pure false := by rfl) (hf : X.fn x = true ∨ X.env.scope.names.lookup x = some .local := by first | exact .inl rfl | exact .inr rfl | assumption) : QS X (.Assign [.Name x pos'] e pos) (tAsg te (gName i)) := ⟨ps_set (hN := hN) (hi := hi) (hx := hx) (he := he.h) (hs := hs) (hf := hf)⟩
end
section
variable {X : Cx} {pos : Pos}
theorem q_ps_par {i j : Nat} {x y : Str} {a b : Expr} {ta : TA} {px py pt : Pos} {kt k2 pt2} (hc : X.calm = true) (hN : X.N.Nodup) (hi : X.N[i]? = some x) (hj : X.N[j]? = some y) (hij : i ≠ j) (hx : X.env.scope.names.lookup x = some .local) (hy : X.env.scope.names.lookup y = some .local) (ha : QA X [a, b] ta) (hw : swappedStores [.Tuple [.Name x px, .Name y py] kt pt] (.Tuple [a, b] k2 pt2) X.env = pure (some [x, y])) (hs : swapsWithSole [.Tuple [.Name x px, .Name y py] kt pt] (.Tuple [a, b] k2 pt2) pos.line X.env = pure false := by rfl) : QS X (.Assign [.Tuple [.Name x px, .Name y py] kt pt] (.Tuple [a, b] k2 pt2) pos) (tPar i j ta) := ⟨ps_par (hc := hc) (hN := hN) (hi := hi) (hj := hj) (hij := hij) (hx := hx) (hy := hy) (ha := ha.h) (hw := hw) (hs := hs)⟩
end
section
variable {X : Cx} {tg : Expr}
theorem q_pi_list {l : Expr} {tl : TE} (hl : QE X l tl) : QI X tg l (iList X.K tl) := ⟨pi_list (hl := hl.h)⟩
end
section
variable {X : Cx} {tg : Expr}
theorem q_pi_range1 {a : Expr} {ta : TA} {p pos : Pos} (hg : Gl X "range") (hm : X.mg "range" = none) (ha : QA X [a] ta) (hs : starEach [a] X.env = [(false, eval a X.env)] := by rfl) : QI X tg (.Call (.Name "range" p) [a] [] pos) (iRng1 ta) := ⟨pi_range1 (hg := hg) (hm := hm) (ha := ha.h) (hs := hs)⟩
end
section
variable {X : Cx} {tg : Expr}
theorem q_ps_for {iter : Expr} {body : List Stmt} {wi : TI} {g : TG} {tb : TS} {pos : Pos} (hp : PassesOwn (model X.prog X.w) X.A X.env X.xe) (hc : X.calm = true) (hi : QI X tg iter wi) (hg : QG X tg g) (hb : QSs X body tb) (hs : ∀ x, foldedSetIterable iter X.env x = pure x := by intro _; rfl) : QS X (.For tg iter body [] pos) (tFor wi g tb) := ⟨ps_for (hp := hp) (hc := hc) (hi := hi.h) (hg := hg.h) (hb := hb.h) (hs := hs)⟩
end
section
variable {X : Cx} {a b c : Expr} {ta tb tc : TE} {pos : Pos}
theorem q_pe_op {op : Operator} {r : R2} (ho : OpR X (binaryOp op) r) (ha : QE X a ta) (hb : QE X b tb) : QE X (.BinOp a op b pos) (tOp r ta tb) := ⟨pe_op (ho := ho) (ha := ha.h) (hb := hb.h)⟩
end
section
variable {X : Cx} {a b c : Expr} {ta tb tc : TE} {pos : Pos}
theorem q_pe_un {op : UnaryOp} {r : V → Hp → VK → Prop} (ho : UnR X (unaryOp op) r) (ha : QE X a ta) : QE X (.UnaryOp op a pos) (tUn r ta) := ⟨pe_un (ho := ho) (ha := ha.h)⟩
end
section
variable {X : Cx} {a b c : Expr} {ta tb tc : TE} {pos : Pos}
theorem q_pe_cmpR {op : CmpOp} {r : R2} (ho : OpR X (compareOp op) r) (ha : QE X a ta) (hb : QE X b tb) (hm : behindInMarks op b = false) : QE X (.Compare a [op] [b] pos) (tOp r ta tb) := ⟨pe_cmpR (ho := ho) (ha := ha.h) (hb := hb.h) (hm := hm)⟩
end
section
variable {X : Cx} {a b c : Expr} {ta tb tc : TE} {pos : Pos}
theorem q_pt_cmpR {op : CmpOp} {r : R2} (ho : OpR X (compareOp op) r) (ha : QE X a ta) (hb : QE X b tb) (hm : behindInMarks op b = false) : QT X (.Compare a [op] [b] pos) (tTest (tOp r ta tb)) := ⟨pt_cmpR (ho := ho) (ha := ha.h) (hb := hb.h) (hm := hm)⟩
end
section
variable {X : Cx} {a b c : Expr} {ta tb tc : TE} {pos : Pos}
theorem q_pe_chain {op op' : CmpOp} {r r' : R2} (ho : OpR X (compareOp op) r) (ho' : OpR X (compareOp op') r') (ha : QE X a ta) (hb : QE X b tb) (hc : QE X c tc) (hm : lastMarks [op, op'] [b, c] = false := by with_unfolding_all rfl) : QE X (.Compare a [op, op'] [b, c] pos) (tChain r r' ta tb tc) := ⟨pe_chain (ho := ho) (ho' := ho') (ha := ha.h) (hb := hb.h) (hc := hc.h) (hm := hm)⟩
end
section
variable {X : Cx} {a b c : Expr} {ta tb tc : TE} {pos : Pos}
theorem q_pt_truth (ha : QE X a ta) (he : ∀ whole, isTrue a X.env whole = (do let v ← whole; standAt a.pos; holding [v] (truthy v))) : QT X a (fun σ H Q => ta σ H fun x H' => ∃ k, TruV X.K x H' k ∧ Q k H') := ⟨pt_truth (ha := ha.h) (he := he)⟩
end
section
variable {X : Cx} {o e value : Expr} {f : Str} {pos pos' tpos : Pos} {ta tv : TE}
theorem q_pe_fld (he : QE X e ta) (hb : attributeBase e f X.env (eval e X.env) = eval e X.env) : QE X (.Attribute e f pos) (tFld X.K ta f) := ⟨pe_fld (he := he.h) (hb := hb)⟩
end
section
variable {X : Cx} {o e value : Expr} {f : Str} {pos pos' tpos : Pos} {ta tv : TE}
theorem q_ps_fld (ha : QE X o ta) (hv : QE X value tv) (hs : swapsWith value (some (.Attribute o f pos')) pos.line X.env = pure false) : QS X (.Assign [.Attribute o f pos'] value pos) (sFld X.K ta tv f) := ⟨ps_fld (ha := ha.h) (hv := hv.h) (hs := hs)⟩
end
section
variable {X : Cx} {e : Expr} {es : List Expr} {te : TE} {t : TA} {pos : Pos}
theorem q_pa_nil  : QA X [] tNil := ⟨pa_nil ⟩
end
section
variable {X : Cx} {e : Expr} {es : List Expr} {te : TE} {t : TA} {pos : Pos}
theorem q_pa_cons (ha : QE X e te) (hr : QA X es t) (hs : starEach (e :: es) X.env = (false, eval e X.env) :: starEach es X.env := by rfl) : QA X (e :: es) (tCons te t) := ⟨pa_cons (ha := ha.h) (hr := hr.h) (hs := hs)⟩
end
section
variable {X : Cx} {e : Expr} {es : List Expr} {te : TE} {t : TA} {pos : Pos}
theorem q_pe_tup {x1} (h : QA X es t) : QE X (.Tuple es x1 pos) (tTup t) := ⟨pe_tup (h := h.h)⟩
end
section
variable {X : Cx} {e : Expr} {es : List Expr} {te : TE} {t : TA} {pos : Pos}
theorem q_pe_lst (h : QA X es t) : QE X (.List es pos) (tLst t) := ⟨pe_lst (h := h.h)⟩
end
section
variable {X : Cx} {CX : CXT} {k : Nat} {f C : Addr} {fd : FuncData} {ps : List Str} {sp : Sp} {dvs : List V} {ds : List Value} {E : XK} {x m : Str} {p pos apos : Pos} {e o : Expr} {es : List Expr} {ta : TE} {t : TA}
theorem q_pe_call (F : FnOk X.prog X.w X.K X.mg X.base CX k f fd ps sp) (hr : Room k X.A) (hg : Gl X x) (hm : X.mg x = some (.ref f)) (hk : PySem.W.keepIn X.K (.ref f) = true) (hb : Binds X.K fd ps ds) (hd : Vals dvs ds) (hx : Passes CX X E) (ha : QA X (e :: es) t) (hdb : (x == ("__debug__" : Str)) = false := by decide) (he : starEach (e :: es) X.env = (false, eval e X.env) :: starEach es X.env := by rfl) (hpl : (backTo pos (starEach es X.env)).any (·.1) = false := by rfl) : QE X (.Call (.Name x p) (e :: es) [] pos) (tCall sp dvs E t) := ⟨pe_call (F := F) (hr := hr) (hg := hg) (hm := hm) (hk := hk) (hb := hb) (hd := hd) (hx := hx) (ha := ha.h) (hdb := hdb) (he := he) (hpl := hpl)⟩
end
section
variable {X : Cx} {CX : CXT} {k : Nat} {f C : Addr} {fd : FuncData} {ps : List Str} {sp : Sp} {dvs : List V} {ds : List Value} {E : XK} {x m : Str} {p pos apos : Pos} {e o : Expr} {es : List Expr} {ta : TE} {t : TA}
theorem q_pe_meth {pl : Sem Bool} (he : QE X o ta) (c : Cls X.K C) (hm : Meth X.K C m f) (F : FnOk X.prog X.w X.K X.mg X.base CX k f fd ps sp) (hr : Room k X.A) (hb : Binds X.K fd ps ds) (hd : Vals dvs ds) (hx : Passes CX X E) (ha : QA X (e :: es) t) (hst : starEach (e :: es) X.env = (false, eval e X.env) :: starEach es X.env := by rfl) (hpl : (backTo pos (starEach es X.env)).any (·.1) = false := by rfl) (ht : eval (.Call (.Attribute o m apos) (e :: es) [] pos) X.env = (do
      let ov ← eval o X.env
      standAt apos.atName
      let (f, first) ← holding [ov] (getMethod ov m pl)
      callWith pos f first (backTo pos (starEach (e :: es) X.env)) (backToKw pos (keywordEach [] X.env))) := by rfl) : QE X (.Call (.Attribute o m apos) (e :: es) [] pos) (tMeth C m sp dvs E ta t) := ⟨pe_meth (he := he.h) (c := c) (hm := hm) (F := F) (hr := hr) (hb := hb) (hd := hd) (hx := hx) (ha := ha.h) (hst := hst) (hpl := hpl) (ht := ht)⟩
end
section
variable {X : Cx} {CX : CXT} {k : Nat} {f C : Addr} {fd : FuncData} {ps : List Str} {sp : Sp} {dvs : List V} {ds : List Value} {E : XK} {x m : Str} {p pos apos : Pos} {e o : Expr} {es : List Expr} {ta : TE} {t : TA}
theorem q_pe_meth0 {pl : Sem Bool} (he : QE X o ta) (c : Cls X.K C) (hm : Meth X.K C m f) (F : FnOk X.prog X.w X.K X.mg X.base CX k f fd ps sp) (hr : Room k X.A) (hb : Binds X.K fd ps ds) (hd : Vals dvs ds) (hx : Passes CX X E) (ht : eval (.Call (.Attribute o m apos) [] [] pos) X.env = (do
      let ov ← eval o X.env
      standAt apos.atName
      let (f, first) ← holding [ov] (getMethod ov m pl)
      callWith pos f first (backTo pos (starEach [] X.env)) (backToKw pos (keywordEach [] X.env))) := by rfl) : QE X (.Call (.Attribute o m apos) [] [] pos) (tMeth C m sp dvs E ta tNil) := ⟨pe_meth0 (he := he.h) (c := c) (hm := hm) (F := F) (hr := hr) (hb := hb) (hd := hd) (hx := hx) (ht := ht)⟩
end
section
variable {X : Cx} {CX : CXT} {k : Nat} {f C : Addr} {fd : FuncData} {ps : List Str} {sp : Sp} {dvs : List V} {ds : List Value} {E : XK} {x m : Str} {p pos apos : Pos} {e o : Expr} {es : List Expr} {ta : TE} {t : TA}
theorem q_pe_make0 (M : Mk X.K C f) (F : FnOk X.prog X.w X.K X.mg X.base CX k f fd ps sp) (hr : Room (k + 1) X.A) (hg : Gl X x) (hm : X.mg x = some (.ref C)) (hb : Binds X.K fd ps ds) (hd : Vals dvs ds) (hx : Passes CX X E) (hdb : (x == ("__debug__" : Str)) = false := by decide) : QE X (.Call (.Name x p) [] [] pos) (tMake C sp dvs E tNil) := ⟨pe_make0 (M := M) (F := F) (hr := hr) (hg := hg) (hm := hm) (hb := hb) (hd := hd) (hx := hx) (hdb := hdb)⟩
end
section
variable {X : Cx} {x : Str} {p pos : Pos} {e : Expr} {es : List Expr} {t : TA} {id T : String} {r : List V → Hp → VK → Prop}
theorem q_pe_callB (hc : CallR X (.builtin id) r) (hg : Gl X x) (hm : X.mg x = none) (hv : bootBuiltins x = some (.builtin id)) (ha : QA X (e :: es) t) (hn : x ≠ "__name__" := by decide) (hdb : (x == ("__debug__" : Str)) = false := by decide) (he : starEach (e :: es) X.env = (false, eval e X.env) :: starEach es X.env := by rfl) (hpl : (backTo pos (starEach es X.env)).any (·.1) = false := by rfl) : QE X (.Call (.Name x p) (e :: es) [] pos) (tCB r t) := ⟨pe_callB (hc := hc) (hg := hg) (hm := hm) (hv := hv) (ha := ha.h) (hn := hn) (hdb := hdb) (he := he) (hpl := hpl)⟩
end
section
variable {X : Cx} {x : Str} {p pos : Pos} {e : Expr} {es : List Expr} {t : TA} {id T : String} {r : List V → Hp → VK → Prop}
theorem q_pe_callTy (hc : CallR X (.type T) r) (hg : Gl X x) (hm : X.mg x = none) (hv : bootBuiltins x = some (.type T)) (ha : QA X (e :: es) t) (hn : x ≠ "__name__" := by decide) (hdb : (x == ("__debug__" : Str)) = false := by decide) (he : starEach (e :: es) X.env = (false, eval e X.env) :: starEach es X.env := by rfl) (hpl : (backTo pos (starEach es X.env)).any (·.1) = false := by rfl) : QE X (.Call (.Name x p) (e :: es) [] pos) (tCB r t) := ⟨pe_callTy (hc := hc) (hg := hg) (hm := hm) (hv := hv) (ha := ha.h) (hn := hn) (hdb := hdb) (he := he) (hpl := hpl)⟩
end
section
variable {X : Cx} {e : Expr} {te : TE} {lo hi : Option Expr} {tl th : TO} {pos p2 : Pos}
theorem q_po_none  : QO X none tNoPart := ⟨po_none ⟩
end
section
variable {X : Cx} {e : Expr} {te : TE} {lo hi : Option Expr} {tl th : TO} {pos p2 : Pos}
theorem q_po_some (h : QE X e te) : QO X (some e) (tPart te) := ⟨po_some (h := h.h)⟩
end
section
variable {X : Cx} {e : Expr} {te : TE} {lo hi : Option Expr} {tl th : TO} {pos p2 : Pos}
theorem q_pe_slice {r : V → Option Int → Option Int → Hp → VK → Prop} (hr : SlR X r) (he : QE X e te) (hl : QO X lo tl) (hu : QO X hi th) : QE X (.Subscript e (.Slice lo hi none p2) pos) (tSl r te tl th) := ⟨pe_slice (hr := hr) (he := he.h) (hl := hl.h) (hu := hu.h)⟩
end
section
variable {X : Cx} {a b : Expr} {ta tb : TE} {pos : Pos}
theorem q_pe_ix {r : R2} (hr : IxR X r) (ha : QE X a ta) (hb : QE X b tb) (hs : PlainIx b) : QE X (.Subscript a b pos) (tOp r ta tb) := ⟨pe_ix (hr := hr) (ha := ha.h) (hb := hb.h) (hs := hs)⟩
end
section
variable {X : Cx} {a b : Expr} {ta tb : TE} {pos : Pos}
variable {o e : Expr} {es : List Expr} {to : TE} {t : TA} {name : Str} {apos cpos : Pos} {T id : String} {r : V → List V → Hp → VK → Prop}
theorem q_pe_bm (pa : PlainAttrs T) (slot : Slot T name id) (hty : typeOf (.builtin id) = pure (.type "method_descriptor")) (hm : MtR X id r) (ho : QE X o to) (ha : QA X (e :: es) t) (hbase : attributeBase o name X.env (eval o X.env) = eval o X.env := by rfl) (hfew : ((backTo cpos (starEach (e :: es) X.env)).all (fun x => !x.1) && (backToKw cpos (keywordEach [] X.env)).all (fun x => x.1.isSome)
      && decide ((e :: es).length + ([] : List Keyword).length + (if ([] : List Keyword).isEmpty then 0 else 1) < 30)) = true := by rfl) (hline : (apos.endLine == cpos.line) = true := by rfl) (hs : starEach (e :: es) X.env = (false, eval e X.env) :: starEach es X.env := by rfl) (hplain : (backTo cpos (starEach es X.env)).any (·.1) = false := by rfl) : QE X (.Call (.Attribute o name apos) (e :: es) [] cpos) (tBM X.K T r to t) := ⟨pe_bm (pa := pa) (slot := slot) (hty := hty) (hm := hm) (ho := ho.h) (ha := ha.h) (hbase := hbase) (hfew := hfew) (hline := hline) (hs := hs) (hplain := hplain)⟩
end
section
variable {X : Cx} {pins : List (Addr × Obj)} {σ : St} {H : Hp} {s : Shared}
theorem q_pts_nil  : QTs X [] tYes := ⟨pts_nil ⟩
end
section
variable {X : Cx} {pins : List (Addr × Obj)} {σ : St} {H : Hp} {s : Shared}
theorem q_pts_one {c : Expr} {t : TT} (h : QT X c t) : QTs X [c] t := ⟨pts_one (h := h.h)⟩
end
section
variable {X : Cx}
theorem q_pe_lc {elt tg iter : Expr} {ifs : List Expr} {scope : Scope} {own : List (Str × Nat)} {pos : Pos} {wi : TI} {g : TG} {tt : TT} {te : TE} (hc : X.calm = true) (hN : X.N.Nodup) (hi : QI X tg iter wi) (ok : BlkOk X.N X.env.scope scope own) (hg : ∀ (s : Shared) (H : Hp) (C : Addr) (cl : List (Str × Addr)) (fp : List Addr), QG (X.blk s H scope (compEnvC scope cl C X.env) fp) tg g) (ht : ∀ (s : Shared) (H : Hp) (C : Addr) (cl : List (Str × Addr)) (fp : List Addr), QTs (X.blk s H scope (compEnvC scope cl C X.env) fp) ifs tt) (he : ∀ (s : Shared) (H : Hp) (C : Addr) (cl : List (Str × Addr)) (fp : List Addr), QE (X.blk s H scope (compEnvC scope cl C X.env) fp) elt te) (hs : ∀ x, foldedSetIterable iter X.env x = pure x := by intro _; rfl) : QE X (.ListComp elt [⟨tg, iter, ifs, 0⟩] scope pos) (tLc wi g tt te (own.map (·.2))) := ⟨pe_lc (hc := hc) (hN := hN) (hi := hi.h) (ok := ok) (hg := fun _ _ _ _ _ => (hg _ _ _ _ _).h) (ht := fun _ _ _ _ _ => (ht _ _ _ _ _).h) (he := fun _ _ _ _ _ => (he _ _ _ _ _).h) (hs := hs)⟩
end
section
variable {X : Cx}
theorem q_ps_setLc {i : Nat} {y : Str} {py : Pos} {elt tg iter : Expr} {ifs : List Expr} {scope : Scope} {own : List (Str × Nat)} {pos spos : Pos} {wi : TI} {g : TG} {tt : TT} {te : TE} (hc : X.calm = true) (hN : X.N.Nodup) (hy : X.N[i]? = some y) (hyl : X.env.scope.names.lookup y = some .local) (hsw : swapsWith (.ListComp elt [⟨tg, iter, ifs, 0⟩] scope pos) (some (.Name y py)) spos.line X.env = pure true) (hi : QI X tg iter wi) (ok : BlkOk X.N X.env.scope scope own) (hg : ∀ (s : Shared) (H : Hp) (C : Addr) (cl : List (Str × Addr)) (fp : List Addr), QG (X.blk s H scope (compEnvC scope cl C X.env) fp) tg g) (ht : ∀ (s : Shared) (H : Hp) (C : Addr) (cl : List (Str × Addr)) (fp : List Addr), QTs (X.blk s H scope (compEnvC scope cl C X.env) fp) ifs tt) (he : ∀ (s : Shared) (H : Hp) (C : Addr) (cl : List (Str × Addr)) (fp : List Addr), QE (X.blk s H scope (compEnvC scope cl C X.env) fp) elt te) (hs : ∀ x, foldedSetIterable iter X.env x = pure x := by intro _; rfl) : QS X (.Assign [.Name y py] (.ListComp elt [⟨tg, iter, ifs, 0⟩] scope pos) spos) (tAsg (tLc wi g tt te (own.map (·.2))) (gName i)) := ⟨ps_setLc (hc := hc) (hN := hN) (hy := hy) (hyl := hyl) (hsw := hsw) (hi := hi.h) (ok := ok) (hg := fun _ _ _ _ _ => (hg _ _ _ _ _).h) (ht := fun _ _ _ _ _ => (ht _ _ _ _ _).h) (he := fun _ _ _ _ _ => (he _ _ _ _ _).h) (hs := hs)⟩
end
section
variable {X : Cx} {o i e value : Expr} {pos pos' tpos : Pos} {td ty tv : TE}
theorem q_pe_dget (hu : X.A.units + 1 < cLine) (ho : QE X o td) (hi : QE X i ty) (hs : NoSl i) : QE X (.Subscript o i pos) (tDGet td ty) := ⟨pe_dget (hu := hu) (ho := ho.h) (hi := hi.h) (hs := hs)⟩
end
section
variable {X : Cx} {o i e value : Expr} {pos pos' tpos : Pos} {td ty tv : TE}
theorem q_ps_dput (hu : X.A.units + 1 < cLine) (ho : QE X o td) (hi : QE X i ty) (hv : QE X value tv) (hs : swapsWith value (some (.Subscript o i pos')) pos.line X.env = pure false) : QS X (.Assign [.Subscript o i pos'] value pos) (sDPut td ty tv) := ⟨ps_dput (hu := hu) (ho := ho.h) (hi := hi.h) (hv := hv.h) (hs := hs)⟩
end
section
variable {X : Cx} {pos : Pos}
theorem q_pe_dnewK  : QE X (.Dict [] [] pos) tDNewK := ⟨pe_dnewK ⟩
end
section
variable {X : Cx}
theorem q_ps_lock {st : Stmt} {t : TS} (h : QS X st t) : QS X st (tLock t) := ⟨ps_lock (h := h.h)⟩
end
section
theorem q_pi_str {X : Cx} {tg e : Expr} {te : TE} (he : QE X e te) : QI X tg e (iStr te) := ⟨pi_str (he := he.h)⟩
end
section
variable {X : Cx} {tg e : Expr} {td : TE} {apos cpos : Pos}
theorem q_pi_keys (he : QE X e td) : QI X tg e (iKeys td) := ⟨pi_keys (he := he.h)⟩
end
section
variable {X : Cx}
theorem q_pv (i : Nat) {x : Str} {pos : Pos} (hN : X.N[i]? = some x := by rfl) (hv : Vis X.env.scope x := by first | exact Or.inl rfl | exact Or.inr (Or.inl rfl) | exact Or.inr (Or.inr rfl)) (hd : (x == ("__debug__" : Str)) = false := by decide) (hcd : (x == ("__classdict__" : Str)) = false := by decide) : QE X (.Name x pos) (tVar i) := ⟨pv (i := i) (hN := hN) (hv := hv) (hd := hd) (hcd := hcd)⟩
end
section
variable {P : Program} {w : World} {K : PySem.W.Frag} {mg : Str → Option Value} {base : Heap}
theorem Fun.okQ {x qual : Str} {st : Stmt} {f : Addr} {fd : FuncData} {N ps : List Str} {k : Nat} {sp : Sp} (F : Fun K x qual st f fd) (S : FnScope N ps (defScope st)) (len : ∀ vs H Q E, sp vs H Q E → vs.length = ps.length)
    (hbody : ∀ (cdv : Value) (A : Around) (outer : List Env) (s : Shared) (H : Hp) (vs : List V) (Q : VK) (E : XK), Room k (A.deeper (envOfC qual (defScope st) s.heap.objs.size f cdv)) → sp vs H Q E →
      ∃ t, QSs (cxOf CX0 P w K mg base N qual (defScope st) f cdv A outer s H E).nox (defBody st) t ∧ t { nx := fun _ H' => Q .non H', rt := Q } (start N vs) H) : FnOk P w K mg base CX0 (k + 1) f fd ps sp :=
  F.ok S len fun cdv A outer s H vs Q E hr h => let ⟨t, q, r⟩ := hbody cdv A outer s H vs Q E hr h; ⟨t, q.h, r⟩
end
end L2
set_option Elab.async false
set_option linter.all false
set_option maxRecDepth 100000
set_option maxHeartbeats 4000000
namespace Ck
open PySem L2
theorem star_Constant {c k p es env} : starEach (.Constant c k p :: es) env = (false, eval (.Constant c k p) env) :: starEach es env := by rfl
theorem star_Name {c p es env} : starEach (.Name c p :: es) env = (false, eval (.Name c p) env) :: starEach es env := by rfl
theorem star_Call {c k z p es env} : starEach (.Call c k z p :: es) env = (false, eval (.Call c k z p) env) :: starEach es env := by rfl
theorem star_BinOp {a o b p es env} : starEach (.BinOp a o b p :: es) env = (false, eval (.BinOp a o b p) env) :: starEach es env := by rfl
theorem star_UnaryOp {o v p es env} : starEach (.UnaryOp o v p :: es) env = (false, eval (.UnaryOp o v p) env) :: starEach es env := by rfl
theorem star_Subscript {a b p es env} : starEach (.Subscript a b p :: es) env = (false, eval (.Subscript a b p) env) :: starEach es env := by rfl
theorem star_Attribute {a b p es env} : starEach (.Attribute a b p :: es) env = (false, eval (.Attribute a b p) env) :: starEach es env := by rfl
theorem star_List {a p es env} : starEach (.List a p :: es) env = (false, eval (.List a p) env) :: starEach es env := by rfl
theorem star_Tuple {a k p es env} : starEach (.Tuple a k p :: es) env = (false, eval (.Tuple a k p) env) :: starEach es env := by rfl
theorem star_ListComp {a b sc p es env} : starEach (.ListComp a b sc p :: es) env = (false, eval (.ListComp a b sc p) env) :: starEach es env := by rfl
section
variable {X : Cx}
def CDivL (i j : Int) : Prop := 0 < j ∧ j.natAbs.log2 < 9000
theorem op_fdivL : OpR X (binaryOp .FloorDiv) (rI CDivL fun i j => .int (i / j)) := opI fun i j _ _ _ _ _ hc q => by
  have h1 : (0 : Int) < j := hc.1
  exact PyProof.Rows.floordiv_int (by omega) (by rw [Int.fdiv_eq_ediv_of_nonneg i (by omega)]; exact q) (.inl (PyProof.noPylong_of_log2 hc.2))
theorem call_isinst : CallR X (.builtin "isinstance") (fun xs H Q => ∃ x n t b, xs = [x, .ty n] ∧ TyOf X.K H x t ∧ PySem.W.kitOne X.K t (.type n) = some b ∧ Q (.bl b) H) := by
  intro pins s σ H xs us Q I r h
  obtain ⟨x, n, t, b, rfl, ty, e, q⟩ := h
  obtain ⟨u, u', rfl, ru, ru'⟩ := vals2 r
  cases ru'
  exact isinst_ok I ru ty e fun tk => ⟨.bl b, H, I.tok _, rfl, q⟩
theorem kit_same {K : PySem.W.Frag} {n : String} : PySem.W.kitOne K (.type n) (.type n) = some true := by
  unfold PySem.W.kitOne
  rw [if_pos (by simp)]
end
theorem lc_str {x : Str} {g : TG} {tt : TT} {te : TE} {vs : List Nat} {σ : St} {H1 : Hp} {D : Addr} {Qd : Hp → Prop} (Pv : Nat → Hp → Prop) (h0 : Pv 0 (upd H1 D (.lst [])))
    (hs : ∀ i c H, x.cps.toList[i]? = some c → Pv i H → g (.str ⟨#[c]⟩) (wipe σ vs) H fun σ2 H2 => wipe σ2 vs = wipe σ vs ∧ tt σ2 H2 fun b H3 =>
      if b = true then te σ2 H3 fun y H4 => ∃ acc, H4 D = some (.lst acc) ∧ acc.length < sizeLine ∧ Pv (i + 1) (upd H4 D (.lst (acc ++ [y]))) else Pv (i + 1) H3) (hd : ∀ H, Pv x.cps.toList.length H → Qd H) :
    ∃ W : Nat → Nat → Hp → Prop, (∃ m, W 0 m (upd H1 D (.lst []))) ∧ ∀ i m H, W i m H →
      ((Its x).stop i H ∧ Qd H) ∨ ((Its x).go i H ∧ ∃ Nx : Hp → Prop, (∀ H', Nx H' → ∃ m', m' < m ∧ W (i + 1) m' H') ∧ ∀ y H', (Its x).yld i H y H' → g y (wipe σ vs) H' fun σ2 H2 => wipe σ2 vs = wipe σ vs ∧ tt σ2 H2 fun b H3 =>
        if b = true then te σ2 H3 fun y H4 => ∃ acc, H4 D = some (.lst acc) ∧ acc.length < sizeLine ∧ Nx (upd H4 D (.lst (acc ++ [y]))) else Nx H3) := by
  refine ⟨fun i m H => m = x.cps.toList.length - i ∧ i ≤ x.cps.toList.length ∧ Pv i H, ⟨x.cps.toList.length, by simp, Nat.zero_le _, h0⟩, ?_⟩
  rintro i m H ⟨rfl, hi, p⟩
  by_cases hlt : i < x.cps.toList.length
  · refine .inr ⟨(show i < x.cps.size by simpa using hlt), Pv (i + 1), fun H' p' => ⟨x.cps.toList.length - (i + 1), by omega, rfl, hlt, p'⟩, fun y H' z => ?_⟩
    obtain ⟨e, c, hc, rfl⟩ := z
    subst e
    exact hs i c _ (by simpa using hc) p
  · have e : i = x.cps.toList.length := by omega
    subst e
    exact .inl ⟨by simp [Its], hd H p⟩
def Keep (d : Addr) (H H' : Hp) : Prop := ∀ b o, H b = some o → b ≠ d → H' b = some o
theorem Keep.refl (d : Addr) (H : Hp) : Keep d H H := fun _ _ h _ => h
theorem Keep.trans {d : Addr} {H H1 H2 : Hp} (a : Keep d H H1) (b : Keep d H1 H2) : Keep d H H2 := fun c o h n => b c o (a c o h n) n
theorem Keep.of {d : Addr} {H H' : Hp} (s : Same H H') : Keep d H H' := fun b o h _ => s b o h
def Scr (K : PySem.W.Frag) (H : Hp) (a : Addr) (ns : List Int) : Prop :=
  (∃ o, H a = some (.frz o (.lst (ns.map V.int)))) ∨ ∃ (o : Obj) (its : Array Value) (n : Nat), K.lookup a = some o ∧ o.cls = .type "list" ∧ o.dict = none ∧ o.data = .seq its n ∧ its.size ≤ sizeLine ∧ Vals (ns.map V.int) its.toList
theorem Scr.sq {K : PySem.W.Frag} {H : Hp} {a : Addr} {ns : List Int} (h : Scr K H a ns) : SqL K H a (ns.map V.int) := h.elim (fun z => .inl (.inr z)) .inr
theorem Scr.of {K : PySem.W.Frag} {H : Hp} {a : Addr} {ns : List Int} (h : SqL K H a (ns.map V.int)) (o : Only H) : Scr K H a ns := by
  rcases h with (h | h) | h
  · rcases o a with z | ⟨u, xs, z⟩
    · rw [h] at z; cases z
    · rw [h] at z; cases z
  · exact .inl h
  · exact .inr h
theorem Scr.keep {K : PySem.W.Frag} {H H' : Hp} {a d : Addr} {ns : List Int} (h : Scr K H a ns) (k : Keep d H H') (hd : ∀ o u, H d ≠ some (.frz o u)) : Scr K H' a ns := by
  rcases h with ⟨o, h⟩ | h
  · refine .inl ⟨o, k _ _ h ?_⟩
    rintro rfl
    exact hd _ _ h
  · exact .inr h
structure DrawAt (K : PySem.W.Frag) (H : Hp) (d a : Addr) (ns : List Int) : Prop where
  ex : ∃ z : Int, 0 ≤ z ∧ H d = some (.lst [.ref a, .int z])
  sc : Scr K H a ns
  len : ns.length ≤ 63
theorem DrawAt.sq {K : PySem.W.Frag} {H : Hp} {d a : Addr} {ns : List Int} (D : DrawAt K H d a ns) : SqL K H a (ns.map V.int) := D.sc.sq
theorem Scr.same {K : PySem.W.Frag} {H H' : Hp} {a : Addr} {ns : List Int} (h : Scr K H a ns) (s : Same H H') : Scr K H' a ns :=
  h.elim (fun ⟨o, z⟩ => .inl ⟨o, s _ _ z⟩) .inr
theorem DrawAt.same {K : PySem.W.Frag} {H H' : Hp} {d a : Addr} {ns : List Int} (D : DrawAt K H d a ns) (s : Same H H') : DrawAt K H' d a ns :=
  ⟨let ⟨z, h0, h⟩ := D.ex; ⟨z, h0, s _ _ h⟩, D.sc.same s, D.len⟩
theorem DrawAt.ne {K : PySem.W.Frag} {H : Hp} {d a p : Addr} {ns : List Int} (D : DrawAt K H d a ns) (h : H p = none) : p ≠ d := by
  obtain ⟨z, _, e⟩ := D.ex
  exact (ne_of_none e h).symm
theorem DrawAt.upd {K : PySem.W.Frag} {H : Hp} {d a p : Addr} {ns : List Int} {o : HO} (D : DrawAt K H d a ns) (np : p ≠ d) (hp : ∀ o u, H p ≠ some (.frz o u)) : DrawAt K (upd H p o) d a ns :=
  ⟨let ⟨z, h0, h⟩ := D.ex; ⟨z, h0, by rw [upd_ne np.symm]; exact h⟩, D.sc.keep (d := p) (fun b u e nb => by rw [upd_ne nb]; exact e) hp, D.len⟩
theorem nofrz {H : Hp} {p : Addr} {xs : List V} (h : H p = some (.lst xs)) : ∀ o u, H p ≠ some (.frz o u) := fun o u z => by rw [h] at z; cases z
theorem Keep.updNew {d L : Addr} {H H' : Hp} {o : HO} (k : Keep d H H') (hL : H L = none) : Keep d H (upd H' L o) := fun b u e nb => by
  rw [upd_ne (ne_of_none e hL)]
  exact k b u e nb
theorem same_new {H : Hp} {p : Addr} {o : HO} (h : H p = none) : Same H (upd H p o) := fun b u e => by
  rw [upd_ne (ne_of_none e h)]
  exact e
theorem dp_ints {K : PySem.W.Frag} {H : Hp} : ∀ ns : List Int, DpAll K H (ns.map V.int) (ns.map PyData.int)
  | [] => .nil
  | n :: r => .cons (.int n) (dp_ints r)
theorem lay_ints : ∀ ns : List Int, PyData.canLayAll0 (ns.map PyData.int) = true
  | [] => rfl
  | n :: r => by
    show PyData.canLayAll0 (PyData.int n :: r.map PyData.int) = true
    simp [PyData.canLayAll0, PyData.canLay0, lay_ints r]
def Okt (x : Str) : Prop := ∀ c ∈ x.cps.toList, c < 1114112
theorem Okt.ok {x : Str} (h : Okt x) : PyData.strOk x = true := by
  unfold PyData.strOk
  rw [← Array.all_toList, List.all_eq_true]
  intro c hc
  exact decide_eq_true (h c hc)
theorem shaped_ints (ns : List Int) : SeqAt.shaped (.list (ns.map PyData.int)) = true := by
  unfold SeqAt.shaped
  rw [Bool.and_eq_true_iff]
  refine ⟨by simp [PyData.canLay0, lay_ints ns], ?_⟩
  simp [PyData.depth, PyProof.Rows.depthAll_ints]
theorem eqv_nil (xs : List PyData) : PyData.eqv (.list xs) (.list []) = xs.isEmpty := by
  cases xs <;> simp [PyData.eqv, PyData.eqvAll]
theorem Okt.append {x y : Str} (h : Okt x) (h' : Okt y) : Okt (x ++ y) := by
  intro c hc
  have e : (x ++ y).cps.toList = x.cps.toList ++ y.cps.toList := by
    show (x.cps ++ y.cps).toList = _
    simp
  rw [e] at hc
  exact (List.mem_append.mp hc).elim (h c) (h' c)
theorem len_app (x y : Str) : (x ++ y).length = x.length + y.length := by
  show (x.cps ++ y.cps).size = x.cps.size + y.cps.size
  simp
theorem len_cut (z : Str) (lo hi : Option Int) : (cutS z lo hi).length ≤ z.length := by
  show (cutS z lo hi).cps.size ≤ z.cps.size
  unfold cutS
  simp only [List.size_toArray, List.length_take, List.length_drop, Array.length_toList]
  omega
theorem Okt.sign {z : Str} (h : Okt z) {c : Nat} (hc : c ∈ z.cps.toList) : Okt ⟨#[c]⟩ := by
  intro b hb
  have e : b = c := by simpa using hb
  rw [e]; exact h c hc
abbrev sgn (c : Nat) : Str := ⟨#[c]⟩
theorem at_bound {α : Type} {xs : List α} {r : Int} (h0 : 0 ≤ r) (h1 : r < xs.length) : ∃ v, atI xs r = some v ∧ v ∈ xs := by
  have hj : r.toNat < xs.length := by omega
  refine ⟨xs[r.toNat], ?_, List.getElem_mem hj⟩
  have e : ((r.toNat : Nat) : Int) = r := by omega
  exact (congrArg (atI xs) e).symm.trans (atI_nat (List.getElem?_eq_getElem hj))
theorem str_len (x : Str) : x.length = x.cps.toList.length := by
  show x.cps.size = _
  simp
theorem yes_i {σ : St} {H : Hp} {A B : Hp → Prop} (h : A H) : tYes σ H (fun b H3 => if b = true then A H3 else B H3) := by
  show (if true = true then A H else B H)
  rw [if_pos rfl]
  exact h
end Ck
set_option Elab.async false
set_option linter.all false
set_option maxRecDepth 100000
set_option maxHeartbeats 4000000
namespace L2
open PySem PySem.Spec PyProof.Rows
def CX1 (P : Program) (w : World) : CXT := fun outer H s E e s' => ∃ (ea C : Addr) (a0 : Value) (B : Heap) (H' : Hp), e = .ref ea ∧ s'.os = s.os ∧ AllBare s'.gens ∧ Un (frs outer) [] H H' s.heap s'.heap ∧ HOk P w H' B ∧
  Heap.FlyingW B outer ea (.ref C) a0 s'.heap ∧ (∀ b o, s.heap.get? b = some o → H b = none → b ∉ frs outer → B.get? b = some o) ∧ (∀ b o, s.heap.get? b = some o → b ∉ frs outer → ∃ o', B.get? b = some o') ∧ E (.ref C) none H'
section
variable {X : Cx} {pins : List (Addr × Obj)} {σ : St} {H : Hp} {s : Shared}
theorem Inv.notFrame (I : Inv X pins σ H s) (hst : X.stack = X.env :: X.outer) (hf : X.env.frame = some X.env.locals) {b : Addr} {o : Obj} (e : X.s_0.heap.get? b = some o) (n : b ∉ X.fs) : b ∉ frs X.stack := fun hm => by
  rw [hst] at hm
  unfold frs at hm
  rw [List.filterMap_cons, hf] at hm
  rcases List.mem_cons.mp hm with z | z
  · exact absurd (Nat.lt_of_lt_of_le (Heap.lt_size e) (by rw [z]; exact I.ok.above)) (Nat.lt_irrefl _)
  · exact n z
theorem frame_data {h base : Heap} {l : List Env} (F : h.FunFrames base l) {b : Addr} {o : Obj} (hb : b ∈ frs l) (e : h.get? b = some o) : ∀ vs, o.data ≠ .fields vs := by
  obtain ⟨_, o', e', d⟩ := F.mem hb
  rw [e] at e'
  cases e'
  exact d
theorem HOk.hidden {P : Program} {w : World} {h : Heap} {H : Hp} {fs : List Addr} (x : HOk P w H h) (n : ∀ b ∈ fs, H b = none) : HOk P w H (PySem.W.hideAll h fs) := fun a o e =>
  (x a o e).stay (fun b u hb q => PySem.W.hideAll_get _ q fun hm => by
    have z := n b hm
    rcases hb with rfl | hb
    · rw [z] at e; cases e
    · rw [z] at hb; cases hb) (fun _ q => q) fun _ _ q => q
theorem raise_leaves {E : XK} {ea C : Addr} {vs : List Value} {h' : Heap} {A : Around} {E' : Value → Shared → Prop} (I : Inv X pins σ H s) (hex : X.ex = []) (hst : X.stack = X.env :: X.outer) (hf : X.env.frame = some X.env.locals)
    (hx : Heap.MadeExcOf s.heap h' ea (.ref C) vs) (q : E (.ref C) none H) (hA : A.frames = some X.stack) :
    wpAny (model X.prog X.w) A (leaving X.env (.ref ea)) (fun _ s'' => CX1 X.prog X.w X.outer X.H_0 X.s_0 E (.ref ea) s'') E' { s with heap := h' } := by
  have hin : ∀ env ∈ X.stack, ∀ b, env.frame = some b → b ∈ frs X.stack := fun env he b hb => List.mem_filterMap.mpr ⟨env, he, hb⟩
  have F := I.stack
  have F2 : s.heap.FunFrames (PySem.W.hideAll s.heap (frs X.stack)) X.stack := PySem.W.funFrames_hide F hin
  have st : (PySem.W.hideAll s.heap (frs X.stack)).StaysIn s.heap := fun b o e => PySem.W.of_hideAll _ e
  have nex : ∀ b : Addr, b ∉ X.ex := fun b z => by rw [hex] at z; cases z
  have inB : ∀ b o, X.s_0.heap.get? b = some o → X.H_0 b = none → b ∉ X.fs → (PySem.W.hideAll s.heap (frs X.stack)).get? b = some o := fun b o e n nf =>
    PySem.W.hideAll_get _ (I.base.keep b o e n nf (nex b)) (I.notFrame hst hf e nf)
  have thB : ∀ b o, X.s_0.heap.get? b = some o → b ∉ X.fs → ∃ o', (PySem.W.hideAll s.heap (frs X.stack)).get? b = some o' := fun b o e nf => by
    obtain ⟨o', e'⟩ := I.base.there b o e (nex b)
    exact ⟨o', PySem.W.hideAll_get _ e' (I.notFrame hst hf e nf)⟩
  have F3 : s.heap.FunFrames (PySem.W.hideAll s.heap (frs X.stack)) (X.env :: X.outer) := by
    have z := F2
    generalize PySem.W.hideAll s.heap (frs X.stack) = BB at z ⊢
    rw [hst] at z
    exact z
  rw [hst] at hA
  refine wpAny_leaves_madeW (s := { s with heap := h' }) hA hf st F3 hx fun h'' t fl _ _ up => ?_
  have slot : ∀ b o, X.s_0.heap.get? b = some o → X.H_0 b = none → b ∈ X.fs → ∃ sl, h''.get? b = some { o with slots := sl } := fun b o e n hb => by
    obtain ⟨sl, e1⟩ := I.base.slot b o e n hb (nex b)
    have hb' : b ∈ frs X.stack := by rw [hst]; unfold frs; rw [List.filterMap_cons, hf]; exact List.mem_cons_of_mem _ hb
    obtain ⟨sl', e2⟩ := up b _ (hx.keeps _ _ e1) (frame_data F hb' e1)
    exact ⟨sl', e2⟩
  refine ⟨ea, C, _, _, H, rfl, I.os, I.bare, ⟨fun b o e n nf _ => fl.1 b o (inB b o e n nf), fun b o e n hb _ => slot b o e n hb, fun b o e n _ => I.base.free b o e n (nex b), fun b o e _ => ?_, I.base.tups, I.base.frzs, I.base.tbls⟩, I.hok.hidden I.stkFree, fl, inB, thB, q⟩
  by_cases hb : b ∈ X.fs
  · have n := I.ok.frf b hb
    obtain ⟨sl, e2⟩ := slot b o e n hb
    exact ⟨_, e2⟩
  · obtain ⟨o', e'⟩ := thB b o e hb
    exact ⟨o', fl.1 b o' e'⟩
theorem flight_leaves {E E0 : XK} {e : Value} {s' : Shared} {A : Around} {E' : Value → Shared → Prop} (I : Inv X pins σ H s) (hex : X.ex = []) (hst : X.stack = X.env :: X.outer) (hf : X.env.frame = some X.env.locals)
    (h : CX1 X.prog X.w X.stack H s E e s') (hE : ∀ c d H', E c d H' → E0 c d H') (hA : A.frames = some X.stack) :
    wpAny (model X.prog X.w) A (leaving X.env e) (fun _ s'' => CX1 X.prog X.w X.outer X.H_0 X.s_0 E0 e s'') E' s' := by
  obtain ⟨ea, C, a0, B, H', rfl, os, bare, un, okB, fl, keepB, thB, q⟩ := h
  have nex : ∀ b : Addr, b ∉ X.ex := fun b z => by rw [hex] at z; cases z
  have F := fl.2.2.1
  rw [hst] at hA fl
  refine wpAny_leaves_onW hA hf fl fun h'' fl' up => ?_
  have nfr : ∀ b o, X.s_0.heap.get? b = some o → b ∉ X.fs → b ∉ frs X.stack := fun b o e nf => I.notFrame hst hf e nf
  have inB : ∀ b o, X.s_0.heap.get? b = some o → X.H_0 b = none → b ∉ X.fs → B.get? b = some o := fun b o e n nf =>
    keepB b o (I.base.keep b o e n nf (nex b)) (I.base.free b o e n (nex b)) (nfr b o e nf)
  have thB' : ∀ b o, X.s_0.heap.get? b = some o → b ∉ X.fs → ∃ o', B.get? b = some o' := fun b o e nf => by
    obtain ⟨o1, e1⟩ := I.base.there b o e (nex b)
    exact thB b o1 e1 (nfr b o e nf)
  have slot : ∀ b o, X.s_0.heap.get? b = some o → X.H_0 b = none → b ∈ X.fs → ∃ sl, h''.get? b = some { o with slots := sl } := fun b o e n hb => by
    have hb' : b ∈ frs X.stack := by rw [hst]; unfold frs; rw [List.filterMap_cons, hf]; exact List.mem_cons_of_mem _ hb
    obtain ⟨sl, e1⟩ := I.base.slot b o e n hb (nex b)
    obtain ⟨sl1, e2⟩ := un.slot b _ e1 (I.base.free b o e n (nex b)) hb' (by simp)
    obtain ⟨sl2, e3⟩ := up b _ e2 (frame_data F hb' e2)
    exact ⟨sl2, e3⟩
  refine ⟨ea, C, a0, B, H', rfl, os.trans I.os, bare, ⟨fun b o e n nf _ => fl'.1 b o (inB b o e n nf), fun b o e n hb _ => slot b o e n hb, fun b o e n _ => ?_, fun b o e _ => ?_, fun b xs e => un.tups b xs (I.base.tups b xs e), fun b o u e => un.frzs b o u (I.base.frzs b o u e), fun b ps e => ?_⟩, okB, fl', inB, thB', hE _ _ _ q⟩
  · obtain ⟨o1, e1⟩ := I.base.there b o e (nex b)
    exact un.free b o1 e1 (I.base.free b o e n (nex b)) (by simp)
  · by_cases hb : b ∈ X.fs
    · obtain ⟨sl, e2⟩ := slot b o e (I.ok.frf b hb) hb
      exact ⟨_, e2⟩
    · obtain ⟨o', e'⟩ := thB' b o e hb
      exact ⟨o', fl'.1 b o' e'⟩
  · obtain ⟨m1, e1⟩ := I.base.tbls b ps e
    obtain ⟨m2, e2⟩ := un.tbls b _ e1
    exact ⟨m1 ++ m2, by rw [e2, Array.append_assoc]⟩
end
structure XOk (X : Cx) (E : XK) : Prop where
  ex : X.ex = []
  st : X.stack = X.env :: X.outer
  fr : X.env.frame = some X.env.locals
  calm : X.calm = true
  xe : X.xe = fun e s' => wpAny (model X.prog X.w) X.A (leaving X.env e) (fun _ s'' => CX1 X.prog X.w X.outer X.H_0 X.s_0 E e s'') (fun e' s'' => CX1 X.prog X.w X.outer X.H_0 X.s_0 E e' s'') s'
theorem passX {X : Cx} {E E0 : XK} (O : XOk X E0) (hE : ∀ c d H', E c d H' → E0 c d H') : Passes (CX1 X.prog X.w) X E := fun pins σ H s e s' I h => by
  rw [O.xe]
  exact flight_leaves I O.ex O.st O.fr h hE I.ok.frames
structure ExcCls (K : PySem.W.Frag) (C : Addr) : Prop where
  ex : PySem.W.excIn K C [.type "ValueError", .type "Exception", .type "BaseException", .type "object"] "ValueError.__new__" = true
def tRaise (E : XK) (C : Addr) (ta : TA) : TS := fun _ σ H => ta σ H fun vs H1 => vs.length ≤ sizeLine ∧ E (.ref C) none H1
theorem exc_obj {K : PySem.W.Frag} {h : Heap} {C : Addr} {bmB : List Value} {newId : String} (X : K.In h) (q : PySem.W.excIn K C bmB newId = true) :
    ∃ bm N nm q bs hdct sn sub ab col dd k0 k1 k2 k3 k5 mN, h.get? C = some (excClassObj nm q C N bs bm hdct sn sub ab col dd k0 k1 k2 k3 k5 newId) ∧ h.Ns N mN ∧ mN "__init__" = none ∧ OwnTail h bmB bm := by
  unfold PySem.W.excIn at q
  split at q
  · rename_i dd cd sl ho
    split at q
    · rename_i C' bm k0 k1 k2 k3 n k5 hm hs
      simp only [Bool.and_eq_true, beq_iff_eq, Bool.not_eq_true'] at q
      obtain ⟨⟨⟨⟨⟨rfl, rfl⟩, hdel⟩, ht⟩, hok⟩, hni⟩ := q
      obtain ⟨nm, bs, mro, ns, qn, hd, sn, sub, ab, col, del⟩ := cd
      dsimp only at hm hdel hok hni
      subst hm hdel
      have hsl : sl = #[k0, k1, k2, k3, some (.builtin n), k5] := by
        obtain ⟨l⟩ := sl
        simp only at hs
        rw [hs]
      subst hsl
      exact ⟨bm, ns, nm, qn, bs, hd, sn, sub, ab, col, dd, k0, k1, k2, k3, k5, _, X _ _ ho, .of_isNs (PySem.W.isNs_of_in X hok), PySem.W.nsMap_none_of_in X hok hni, PySem.W.tail_of_in X ht⟩
    · cases q
  · cases q
theorem ps_raise {X : Cx} {E : XK} {C : Addr} {x : Str} {np cpos pos : Pos} {e : Expr} {es : List Expr} {ta : TA} (O : XOk X E) (c : ExcCls X.K C) (hg : Gl X x) (hm : X.mg x = some (.ref C)) (ha : PA X (e :: es) ta)
    (hdb : (x == ("__debug__" : Str)) = false := by decide) (he : starEach (e :: es) X.env = (false, eval e X.env) :: starEach es X.env := by rfl) (hpl : (backTo cpos (starEach es X.env)).any (·.1) = false := by rfl) :
    PS X (.Raise (some (.Call (.Name x np) (e :: es) [] cpos)) none pos) (tRaise E C ta) := by
  intro pins s σ H D I h
  obtain ⟨tl, N, nm, q, bs, hdct, sn, sub, ab, col, dd, k0, k1, k2, k3, k5, mN, hC, hN, hni, T⟩ := exc_obj I.ok.mod.kin c.ex
  refine wpAny_Raise_call_subT (C := C) (nm := nm) (q := q) (N := N) (bs := bs) (bm := tl) (hdct := hdct) (sn := sn) (sub := sub) (ab := ab) (col := col) (dd := dd) (k0 := k0) (k1 := k1) (k2 := k2) (k3 := k3) (k5 := k5)
    F.excBase_ValueError (mN := mN) (T.hasType F.excBase_ValueError.hasBase) (I.ok.hd O.calm) (by rw [he]; show (false || (backTo cpos (starEach es X.env)).any (·.1)) = false; rw [hpl]; rfl) hni (ld_glob I hg hm ⟨rfl, ?_⟩ hdb)
  have h2 := ha cpos pins s σ H _ I h
  rw [he] at h2 ⊢
  refine Calls.evalArgs_plain (thn h2 fun us s2 ⟨vs, H1, I1, r, hl, q⟩ => ?_)
  refine ⟨rfl, by rw [← r.length]; exact hl, I1.bk _ _ hC, hN.keeps I1.bk, T.keeps I1.bk, fun h' ea hx => ?_⟩
  rw [O.xe]
  exact raise_leaves I1 O.ex O.st O.fr hx q I1.ok.frames
structure QX (X : Cx) (e : Stmt) (t : TS) : Prop where
  h : PS X e t
theorem q_ps_raise {X : Cx} {E : XK} {C : Addr} {x : Str} {np cpos pos : Pos} {e : Expr} {es : List Expr} {ta : TA} (O : XOk X E) (c : ExcCls X.K C) (hg : Gl X x) (hm : X.mg x = some (.ref C)) (ha : QA X (e :: es) ta)
    (hdb : (x == ("__debug__" : Str)) = false := by decide) (he : starEach (e :: es) X.env = (false, eval e X.env) :: starEach es X.env := by rfl) (hpl : (backTo cpos (starEach es X.env)).any (·.1) = false := by rfl) :
    QS X (.Raise (some (.Call (.Name x np) (e :: es) [] cpos)) none pos) (tRaise E C ta) := ⟨ps_raise O c hg hm ha.h hdb he hpl⟩
section
variable {P : Program} {w : World} {K : PySem.W.Frag} {mg : Str → Option Value} {base : Heap}
theorem Fun.okX {x qual : Str} {st : Stmt} {f : Addr} {fd : FuncData} {N ps : List Str} {k : Nat} {sp : Sp} (F : Fun K x qual st f fd) (S : FnScope N ps (defScope st)) (len : ∀ vs H Q E, sp vs H Q E → vs.length = ps.length)
    (hbody : ∀ (cdv : Value) (A : Around) (outer : List Env) (s : Shared) (H : Hp) (vs : List V) (Q : VK) (E : XK), Room k (A.deeper (envOfC qual (defScope st) s.heap.objs.size f cdv)) → sp vs H Q E →
      XOk (cxOf (CX1 P w) P w K mg base N qual (defScope st) f cdv A outer s H E) E →
      ∃ t, QSs (cxOf (CX1 P w) P w K mg base N qual (defScope st) f cdv A outer s H E) (defBody st) t ∧ t { nx := fun _ H' => Q .non H', rt := Q } (start N vs) H) : FnOk P w K mg base (CX1 P w) (k + 1) f fd ps sp := by
  obtain ⟨oc, od, kV, doc, pm, an, cdv, ct, osl, rfl, lk, hcd⟩ := F.ex
  refine fn_of lk hcd S len fun A outer s H vs Q E hr hsp => ?_
  obtain ⟨t, h, q⟩ := hbody cdv A outer s H vs Q E hr hsp ⟨rfl, rfl, rfl, rfl, rfl⟩
  exact ⟨t, h.h, q⟩
end
abbrev XC := Addr → St → Hp → Prop
def XS (X : Cx) (pins : List (Addr × Obj)) (EX : XC) (ex : Value) (s' : Shared) : Prop := ∃ σ H1 s1, Inv X pins σ H1 s1 ∧ CX1 X.prog X.w X.stack H1 s1 (fun c _ H' => ∃ C, c = .ref C ∧ EX C σ H') ex s'
abbrev TX := St → Hp → VK → XK → Prop
abbrev TSX := Ends → XC → St → Hp → Prop
structure QEX (X : Cx) (e : Expr) (t : TX) : Prop where
  h : ∀ (pins : List (Addr × Obj)) (s : Shared) (σ : St) (H : Hp) (Q : VK) (EX : XC), Inv X pins σ H s → t σ H Q (fun c _ H' => ∃ C, c = .ref C ∧ EX C σ H') →
    wpAny (model X.prog X.w) X.A (eval e X.env) (EP X pins σ Q) (XS X pins EX) s
structure QSX (X : Cx) (sts : List Stmt) (t : TSX) : Prop where
  h : ∀ (pins : List (Addr × Obj)) (s : Shared) (σ : St) (H : Hp) (D : Ends) (EX : XC), Inv X pins σ H s → t D EX σ H → wpAny (model X.prog X.w) X.A (execs sts X.env) (SP X pins D) (XS X pins EX) s
theorem thnX {α : Type} {t : Sem α} {Q Q' : α → Shared → Prop} {M : Model} {A : Around} {E : Value → Shared → Prop} {s : Shared} (h : wpAny M A t Q (fun _ _ => False) s) (hQ : ∀ a s, Q a s → Q' a s) : wpAny M A t Q' E s := wpAny_mono h hQ fun _ _ z => False.elim z
section
variable {X : Cx} {k : Nat} {f C : Addr} {fd : FuncData} {ps : List Str} {sp : Sp} {dvs : List V} {ds : List Value} {x m : Str} {p pos apos : Pos} {e o : Expr} {es : List Expr} {ta : TE} {t : TA}
theorem run_fnX {pins : List (Addr × Obj)} {σ : St} {H : Hp} {s : Shared} {Q : VK} {EX : XC} {us : List Value} {vs : List V} (F : FnOk X.prog X.w X.K X.mg X.base (CX1 X.prog X.w) k f fd ps sp) (hr : Room k X.A) (hb : Binds X.K fd ps ds) (hd : Vals dvs ds)
    (I : Inv X pins σ H s) (r : Vals vs us) (h : sp (vs ++ dvs) H Q (fun c _ H' => ∃ C, c = .ref C ∧ EX C σ H')) : wpAny (model X.prog X.w) X.A (call (.ref f) us) (EP X pins σ Q) (XS X pins EX) s := by
  have r2 : Vals (vs ++ dvs) (us ++ ds) := r.append hd
  have hl : (us ++ ds).length = ps.length := by rw [← r2.length]; exact F.len _ _ _ _ h
  refine wpAny_call (codeAny_mono (F.run X.A X.stack s H ⟨us, []⟩ (us ++ ds) (vs ++ dvs) Q _ hr I.env0 (hb s us I.kIn hl) r2 h) fun r s' hq => ?_)
  cases r with
  | error e => exact ⟨σ, H, s, I, hq⟩
  | ok fl =>
    cases fl with
    | ret u => exact I.after hq
    | next => exact False.elim hq
    | brk => exact False.elim hq
    | cont => exact False.elim hq
def xMeth (C : Addr) (m : Str) (sp : Sp) (dvs : List V) (ta : TE) (t : TA) : TX := fun σ H Q E => ta σ H fun x H1 => ∃ a dx fs, x = .ref a ∧ H1 a = some (.ins C dx fs) ∧ fs.lookup m = none ∧
  t σ H1 fun vs H2 => sp (x :: (vs ++ dvs)) H2 Q E
theorem qx_meth {pl : Sem Bool} (he : QE X.nox o ta) (c : Cls X.K C) (hm : Meth X.K C m f) (F : FnOk X.prog X.w X.K X.mg X.base (CX1 X.prog X.w) k f fd ps sp) (hr : Room k X.A) (hb : Binds X.K fd ps ds) (hd : Vals dvs ds) (ha : QA X.nox (e :: es) t)
    (hst : starEach (e :: es) X.env = (false, eval e X.env) :: starEach es X.env := by rfl) (hpl : (backTo pos (starEach es X.env)).any (·.1) = false := by rfl)
    (ht : eval (.Call (.Attribute o m apos) (e :: es) [] pos) X.env = (do
      let ov ← eval o X.env
      standAt apos.atName
      let (f, first) ← holding [ov] (getMethod ov m pl)
      callWith pos f first (backTo pos (starEach (e :: es) X.env)) (backToKw pos (keywordEach [] X.env))) := by rfl) :
    QEX X (.Call (.Attribute o m apos) (e :: es) [] pos) (xMeth C m sp dvs ta t) := by
  refine ⟨fun pins s σ H Q EX I h => ?_⟩
  refine PySem.W.methodCall_KW (pl := pl) (thnX (he.h pins s σ H _ (I.wish _) h) fun u s1 ⟨x, H1, I1, rx, a, dx, fs, ex, ea, l, q⟩ => ?_) ht
  subst ex
  obtain rfl : u = Value.ref a := rx
  have I1 := I1.unwish
  refine getmeth_ok I1 ea c hm l ?_
  refine PySem.W.callWith_K (first := [.ref a]) (h₀ := X.base) I.ok.mod.kin hm.kp (thnX (ha.h pos pins s1 σ H1 _ (I1.wish _) q) fun us s2 ⟨vs, H2, I2, r, q2⟩ => ⟨I2.kIn, ?_⟩) hst hpl
  exact run_fnX (us := .ref a :: us) (vs := .ref a :: vs) F hr hb hd I2.unwish (.cons rfl r) q2
end
section
variable {X : Cx} {e : Expr} {tx : TX} {pos : Pos}
theorem one_x {pins : List (Addr × Obj)} {D : Ends} {E : Value → Shared → Prop} {s : Shared} {st : Stmt} (h : wpAny (model X.prog X.w) X.A (exec st X.env) (SP X pins D) E s) : wpAny (model X.prog X.w) X.A (execs [st] X.env) (SP X pins D) E s := by
  refine wpAny_execs_cons (thn h fun f s1 q => ?_)
  cases f with
  | next => exact wpAny_execs_nil q
  | ret v => exact q
  | brk => exact q
  | cont => exact q
theorem qsx_set {i : Nat} {x : Str} {pos' : Pos} (hN : X.N.Nodup) (hi : X.N[i]? = some x) (hx : Loc X.env.scope x) (he : QEX X e tx) (hs : swapsWith e (some (.Name x pos')) pos.line X.env = pure false := by rfl) (hf : X.fn x = true ∨ X.env.scope.names.lookup x = some .local := by first | exact .inl rfl | exact .inr rfl | assumption) :
    QSX X [.Assign [.Name x pos'] e pos] (fun D EX σ H => tx σ H (fun v H1 => D.nx (σ.set i (some v)) H1) (fun c _ H' => ∃ C, c = .ref C ∧ EX C σ H')) :=
  ⟨fun pins s σ H D EX I h => one_x (wpAny_Assign_Name (thn (he.h pins s σ H _ EX I h) fun v s1 ⟨y, H1, I1, r1, q1⟩ => store_ok I1 hN hi hx r1 (fun s2 I2 => ⟨_, H1, I2, q1⟩) hf) hs)⟩
theorem qsx_if {c : Expr} {a b : List Stmt} {tc : TT} {t u : TSX} (hc : QT X.nox c tc) (ha : QSX X a t) (hb : QSX X b u) : QSX X [.If c a b pos] (fun D EX σ H => tc σ H fun b H1 => if b = true then t D EX σ H1 else u D EX σ H1) := by
  refine ⟨fun pins s σ H D EX I h => one_x ?_⟩
  refine wpAny_If (thnX (hc.h pins s σ H _ (I.wish _) h) fun d s1 ⟨H1, I1, q1⟩ => ?_)
  cases d with
  | true => exact ha.h pins s1 σ H1 D EX I1.unwish q1
  | false => exact hb.h pins s1 σ H1 D EX I1.unwish q1
end
section
variable {X : Cx} {pins : List (Addr × Obj)} {σ : St} {H : Hp} {s : Shared}
def excAt (ea C : Addr) (h : Heap) : Prop := ∃ o vs, h.get? ea = some o ∧ o.cls = .ref C ∧ o.data = .fields vs
theorem landed {s0 s1 : Shared} {H1 H' : Hp} {B h5 : Heap} {ea C : Addr} {a0 : Value} (I0 : Inv X pins σ H1 s0) (os : s1.os = s0.os) (bare : AllBare s1.gens) (un : Un (frs X.stack) [] H1 H' s0.heap s1.heap) (okB : HOk X.prog X.w H' B)
    (keepB : ∀ b o, s0.heap.get? b = some o → H1 b = none → b ∉ frs X.stack → B.get? b = some o) (thB : ∀ b o, s0.heap.get? b = some o → b ∉ frs X.stack → ∃ o', B.get? b = some o')
    (F1 : s1.heap.FunFrames B X.stack) (fl : Heap.FlyingW B X.stack ea (.ref C) a0 h5) (up : s1.heap.UpToSlots h5) : Inv X pins σ H' { s1 with heap := h5 } := by
  have slot : ∀ b o, s0.heap.get? b = some o → H1 b = none → b ∈ frs X.stack → ∃ sl, h5.get? b = some { o with slots := sl } := fun b o e n hb => by
    obtain ⟨sl1, e2⟩ := un.slot b _ e n hb (by simp)
    obtain ⟨sl2, e3⟩ := up b _ e2 (frame_data F1 hb e2)
    exact ⟨sl2, e3⟩
  refine I0.call' (ch := []) os ⟨fun b o e n nf _ => fl.1 b o (keepB b o e n nf), fun b o e n hb _ => slot b o e n hb, un.free, fun b o e _ => ?_, un.tups, un.frzs, un.tbls⟩ (okB.kept fl.1) bare (fun _ z => nomatch z)
  by_cases hb : b ∈ frs X.stack
  · obtain ⟨sl, e2⟩ := slot b o e (I0.stkFree b hb) hb
    exact ⟨_, e2⟩
  · obtain ⟨o', e'⟩ := thB b o e hb
    exact ⟨o', fl.1 b o' e'⟩
theorem Inv.trackExc {ea C : Addr} (I : Inv X pins σ H s) (hex : X.ex = []) (n0 : X.s_0.heap.get? ea = none) (np : ∀ p ∈ X.pn ++ pins, p.1 ≠ ea) (nH : H ea = none) (x : excAt ea C s.heap) : Inv X pins σ (upd H ea (.ext (excAt ea C))) s := by
  have nex : ∀ b : Addr, b ∉ X.ex := fun b z => by rw [hex] at z; cases z
  obtain ⟨oe, vs, he, hc, hd⟩ := id x
  have nL : X.env.locals ≠ ea := fun z => by
    obtain ⟨m, ⟨o, es, ep, ho, hdd, _⟩, _⟩ := I.loc
    rw [z, he] at ho; cases ho; rw [hd] at hdd; cases hdd
  have old : ∀ b o, H b = some o → b ≠ ea := fun b o e => ne_of_none e nH
  refine ⟨I.ok, I.os, I.bare, ⟨I.base.keep, I.base.slot, fun b o e n hx => ?_, I.base.there, fun b xs e => ?_, fun b o u e => ?_, fun b ps e => ?_⟩, I.loc, I.cell, ?_, fun y c e => ?_, fun p hp => ?_, fun b o e => ?_, I.len⟩
  · rw [upd_ne (fun z => by rw [z, n0] at e; cases e)]
    exact I.base.free b o e n hx
  · have z := I.base.tups b xs e
    rw [upd_ne (old _ _ z)]; exact z
  · have z := I.base.frzs b o u e
    rw [upd_ne (old _ _ z)]; exact z
  · obtain ⟨more, z⟩ := I.base.tbls b ps e
    exact ⟨more, by rw [upd_ne (old _ _ z)]; exact z⟩
  · rw [upd_ne nL]; exact I.free
  · obtain ⟨v, o, ho, hdd⟩ := I.cell y c e
    rw [upd_ne (fun z => by rw [z, he] at ho; cases ho; rw [hd] at hdd; cases hdd)]
    exact I.freeC y c e
  · obtain ⟨e1, n, ne, nf, dd⟩ := I.pin p hp
    exact ⟨e1, by rw [upd_ne (np p hp)]; exact n, ne, nf, dd⟩
  · by_cases hb : b = ea
    · subst hb
      rw [upd_same] at e
      cases e
      refine ⟨x, ⟨oe, he⟩, fun h1 h2 ⟨o, vs, e1, c1, d1⟩ k => ⟨o, vs, k o e1, c1, d1⟩⟩
    · rw [upd_ne hb] at e
      exact (I.hok b o e).stay (fun _ _ _ q => q) (fun c q => by rw [upd_ne (old _ _ q)]; exact q) fun c xs q => by rw [upd_ne (old _ _ q)]; exact q
theorem del_ok {M : Model} {A : Around} {E : Value → Shared → Prop} {i : Nat} {x : Str} {v : V} {Q : Unit → Shared → Prop} (I : Inv X pins σ H s) (hN : X.N.Nodup) (hi : X.N[i]? = some x) (hx : X.env.scope.names.lookup x = some .local) (hv : σ[i]? = some (some v))
    (h : ∀ s', Inv X pins (σ.set i none) H s' → Q () s') : wpAny M A (unbindName X.env x) Q E s := by
  obtain ⟨m, hn, hl⟩ := id I.loc
  have hcls : (X.env.scope.kind == .class || (X.env.scope.kind == .module && X.env.locals != X.env.globals)) = false := by rw [I.ok.kind]; rfl
  have hiσ : i < σ.length := by rw [I.len]; exact (List.getElem?_eq_some_iff.mp hi).1
  have cne := I.cne
  obtain ⟨u, r, l⟩ := hl i x v hi hv (.inl hx)
  have e : m x = some u := by
    rcases l with ⟨_, e⟩ | ⟨k, _⟩
    · exact e
    · rcases k with k | k <;> rw [show X.env.kindOf x = some .local from hx] at k <;> cases k
  refine wpAny_unbindName_local hx hn e hcls fun h' u' hn' hs => ?_
  obtain ⟨oL, _, _, hoL, _⟩ := id hn
  have tracked : HOk X.prog X.w H h' := fun b ob e => by
    refine (I.hok b ob e).stay (fun c w' hc q => (hs.2 c ?_).trans q) (fun _ q => q) fun _ _ q => q
    intro z
    rw [z] at hc
    rcases hc with rfl | hc
    · rw [I.free] at e; cases e
    · rw [I.free] at hc; cases hc
  refine h _ ⟨I.ok, I.os, I.bare, ⟨fun b o e n hb hx => ?_, fun b o e n hb hx => ?_, I.base.free, fun b o e hx => ?_, I.base.tups, I.base.frzs, I.base.tbls⟩, ⟨_, hn', fun j y v' e1 e2 e3 => ?_⟩, fun y c e => ?_, I.free, I.freeC, fun p hp => ?_, tracked, by simpa using I.len⟩
  · exact (hs.2 b (Nat.ne_of_lt (Nat.lt_of_lt_of_le (Heap.lt_size e) I.ok.above))).trans (I.base.keep b o e n hb hx)
  · obtain ⟨sl, e1⟩ := I.base.slot b o e n hb hx
    exact ⟨sl, (hs.2 b (Nat.ne_of_lt (Nat.lt_of_lt_of_le (Heap.lt_size e) I.ok.above))).trans e1⟩
  · obtain ⟨o', e1⟩ := I.base.there b o e hx
    exact ⟨o', (hs.2 b (Nat.ne_of_lt (Nat.lt_of_lt_of_le (Heap.lt_size e) I.ok.above))).trans e1⟩
  · by_cases hj : j = i
    · subst hj
      rw [List.getElem?_set_self hiσ] at e2
      cases e2
    · rw [List.getElem?_set_ne (Ne.symm hj)] at e2
      obtain ⟨u', r', q⟩ := hl j y v' e1 e2 e3
      refine ⟨u', r', ?_⟩
      rcases q with ⟨k, e⟩ | ⟨k, c, e, z⟩
      · refine .inl ⟨k, ?_⟩
        have : y ≠ x := fun e => hj (nodup_ix hN e1 (e ▸ hi))
        simp [this, e]
      · exact .inr ⟨k, c, e, z.sameBut hs (cne y c e)⟩
  · obtain ⟨w', z⟩ := I.cell y c e
    exact ⟨w', z.sameBut hs (cne y c e)⟩
  · obtain ⟨e, n, ne, nf, d⟩ := I.pin p hp
    exact ⟨(hs.2 p.1 ne).trans e, n, ne, nf, d⟩
end
section
theorem ObjOk.thereO {P : Program} {w : World} {H : Hp} {h : Heap} {a : Addr} {o : HO} (x : ObjOk P w H h a o) : ∃ ob, h.get? a = some ob := by
  cases o with
  | lst xs => obtain ⟨_, _, _, _, e⟩ := x; exact ⟨_, e⟩
  | tup xs => obtain ⟨_, _, _, p⟩ := x; obtain ⟨ob, e, _⟩ := p; exact ⟨_, e⟩
  | dK kvs => obtain ⟨_, _, _, _, o, _, _, e, _⟩ := x; exact ⟨_, e⟩
  | dT kvs => obtain ⟨_, _, _, _, o, _, _, e, _⟩ := x; exact ⟨_, e⟩
  | set S n => obtain ⟨o, _, _, _, e, _⟩ := x; exact ⟨_, e⟩
  | ins C dx fs => obtain ⟨_, _, _, e, _⟩ := x; exact ⟨_, e⟩
  | own y => exact x
  | xd fs => obtain ⟨_, ⟨_, _, _, e, _⟩, _⟩ := x; exact ⟨_, e⟩
  | rng lo hi => obtain ⟨_, _, _, e⟩ := x; exact ⟨_, e⟩
  | frz ob u => obtain ⟨e, _⟩ := x; exact ⟨_, e⟩
  | tbl ps => exact ⟨_, x⟩
  | met f y => exact ⟨_, x⟩
  | ext φ => obtain ⟨_, e, _⟩ := x; exact e
abbrev Cx.hnd (X : Cx) (ea : Addr) : Cx := { X with A := X.A.mark (some (.ref ea)), calm := false, xe := fun _ _ => False }
variable {X : Cx} {pins : List (Addr × Obj)} {σ : St} {H : Hp} {s : Shared}
theorem Inv.hnd (I : Inv X pins σ H s) (ea : Addr) : Inv (X.hnd ea) pins σ H s :=
  ⟨⟨I.ok.mod, I.ok.kind, I.ok.glob, I.ok.blt, I.ok.above, I.ok.inj, I.ok.has, I.ok.cab, fun z => (by cases z), I.ok.frames, I.ok.stk, I.ok.exf, I.ok.bs, I.ok.bsz, I.ok.noex, I.ok.exfs, I.ok.funs, I.ok.frf⟩, I.os, I.bare, I.base, I.loc, I.cell, I.free, I.freeC, I.pin, I.hok, I.len⟩
theorem Inv.unhnd {ea : Addr} (I : Inv (X.hnd ea) pins σ H s) (ok : X.Ok) : Inv X pins σ H s := ⟨ok, I.os, I.bare, I.base, I.loc, I.cell, I.free, I.freeC, I.pin, I.hok, I.len⟩
def tTryAs (K : PySem.W.Frag) (Cb : Addr) (i : Nat) (tb : TSX) (th : TS) : TS := fun D σ H => tb D (fun C σ' H' => PySem.W.exmOne K (.ref C) (.ref Cb) = some true ∧
  ∀ ea, H' ea = none → th { nx := fun σ2 H2 => D.nx (σ2.set i none) H2, rt := D.rt, bk := fun σ2 H2 => D.bk (σ2.set i none) H2, ct := fun σ2 H2 => D.ct (σ2.set i none) H2 } (σ'.set i (some (.ref ea))) (upd H' ea (.ext (excAt ea C)))) σ H
theorem q_ps_tryAs {x n : Str} {Cb : Addr} {i : Nat} {body : List Stmt} {b0 : Stmt} {suite : List Stmt} {np hpos tpos : Pos} {tb : TSX} {th : TS} (hN : X.N.Nodup) (hi : X.N[i]? = some n) (hl : X.env.scope.names.lookup n = some .local)
    (hg : Gl X x) (hm : X.mg x = some (.ref Cb)) (hb : QSX X body tb) (hs : ∀ ea, QSs (X.hnd ea) (b0 :: suite) th) (hdb : (x == ("__debug__" : Str)) = false := by decide)
    (hex : X.ex = [] := by rfl) (hst : X.stack = X.env :: X.outer := by rfl) (hf : X.env.frame = some X.env.locals := by rfl) :
    QS X (.Try body [.ExceptHandler (some (.Name x np)) (some n) (b0 :: suite) hpos] [] [] tpos) (tTryAs X.K Cb i tb th) := by
  refine ⟨fun pins s σ H D I h => ?_⟩
  refine wpAny_Try_except (wpAny_mono (hb.h pins s σ H D _ I h) (fun f s1 q => ?_) fun e s1 hx => ?_)
  · cases f with
    | next => exact wpAny_execs_nil q
    | ret v => exact q
    | brk => exact q
    | cont => exact q
  obtain ⟨σ', H1, s0, I0, ea, C, a0, B, H', rfl, os, bare, un, okB, fl, keepB, thB, C', eC, hm1, hq⟩ := hx
  cases eC
  have F1 := fl.2.2.1
  have hA : X.A.frames = some (X.env :: X.outer) := by rw [← hst]; exact I.ok.frames
  have fl' : Heap.FlyingW B (X.env :: X.outer) ea (.ref C) a0 s1.heap := by rw [← hst]; exact fl
  refine wpAny_looks_onW hA hf fl' fun h4 held up4 => ?_
  refine wpAny_landsW held fun h5 fl5' up5 => ?_
  have fl5 : Heap.FlyingW B X.stack ea (.ref C) a0 h5 := by rw [hst]; exact fl5'
  have I5 : Inv X pins σ' H' { s1 with heap := h5 } := landed I0 os bare un okB keepB thB F1 fl5 (up4.trans up5)
  refine wpAny_handleBy_cons (codeAny_handlers_test (ld_glob (X := X.hnd ea) (I5.hnd ea) hg hm ?_ hdb)) (by intro q; cases q)
  have LT : PySem.W.Looks (model X.prog X.w) h5 (typeOf (.ref ea)) (.ref C) := by
    obtain ⟨ob, e1, e2⟩ := fl5.there
    exact e2 ▸ (PySem.W.Looks.ld e1).andThen .now
  refine PySem.W.exm_one I5.kIn LT hm1 _ _ _ _ (fun _ _ q => q) ?_
  refine codeAny_handlers_suite_as ?_
  refine lands_againW fl5 fun h6 fl6 up6 => ?_
  have I6 : Inv X pins σ' H' { s1 with heap := h6 } := landed I0 os bare un okB keepB thB F1 fl6 ((up4.trans up5).trans up6)
  have x6 : excAt ea C h6 := by
    obtain ⟨oe, vs, T, oT, ts, he, ⟨hc, _⟩, hd, _⟩ := fl6.2.2.2
    exact ⟨oe, vs, he, hc, hd⟩
  have nH : H' ea = none := by
    cases q : H' ea with
    | none => rfl
    | some o =>
      obtain ⟨ob, e⟩ := (okB ea o q).thereO
      rw [fl.2.1] at e; cases e
  have n0 : X.s_0.heap.get? ea = none := by
    cases q : X.s_0.heap.get? ea with
    | none => rfl
    | some o =>
      by_cases hfr : ea ∈ X.fs
      · have hfr' : ea ∈ frs X.stack := by rw [hst]; unfold frs; rw [List.filterMap_cons, hf]; exact List.mem_cons_of_mem _ hfr
        obtain ⟨oe, vs, he, hc, hd⟩ := x6
        exact absurd hd (frame_data fl6.2.2.1 hfr' he vs)
      · obtain ⟨o1, e1⟩ := I0.base.there ea o q (by rw [hex]; simp)
        obtain ⟨o2, e2⟩ := thB ea o1 e1 (I0.notFrame hst hf q hfr)
        rw [fl.2.1] at e2; cases e2
  have np : ∀ p ∈ X.pn ++ pins, p.1 ≠ ea := fun p hp z => by
    obtain ⟨e1, n1, nL, nf, _⟩ := I0.pin p hp
    have nst : p.1 ∉ frs X.stack := fun hm => by
      rcases List.mem_cons.mp (I0.stkSub _ hm) with y | y
      · exact nL y
      · exact nf y
    have e2 := keepB _ _ e1 n1 nst
    rw [z, fl.2.1] at e2; cases e2
  have I7 := I6.trackExc hex n0 np nH x6
  refine store_ok (v := V.ref ea) I7 hN hi (.inl hl) rfl (fun s8 I8 => ?_) (.inr hl)
  refine thnX ((hs ea).h pins s8 _ _ _ (I8.hnd ea) (hq ea nH)) fun f s9 q9 => ?_
  have fin : ∃ σ9 H9, Inv X pins σ9 H9 s9 ∧ ∀ s', Inv X pins (σ9.set i none) H9 s' → SP X pins D f s' := by
    cases f with
    | next => obtain ⟨σ9, H9, I9, q⟩ := q9; exact ⟨σ9, H9, I9.unhnd I.ok, fun s' I' => ⟨_, H9, I', q⟩⟩
    | brk => obtain ⟨σ9, H9, I9, q⟩ := q9; exact ⟨σ9, H9, I9.unhnd I.ok, fun s' I' => ⟨_, H9, I', q⟩⟩
    | cont => obtain ⟨σ9, H9, I9, q⟩ := q9; exact ⟨σ9, H9, I9.unhnd I.ok, fun s' I' => ⟨_, H9, I', q⟩⟩
    | ret u => obtain ⟨v, σ9, H9, I9, r, q⟩ := q9; exact ⟨σ9, H9, I9.unhnd I.ok, fun s' I' => ⟨v, _, H9, I', r, q⟩⟩
  obtain ⟨σ9, H9, I9, k9⟩ := fin
  have hiσ : i < σ9.length := by rw [I9.len]; exact (List.getElem?_eq_some_iff.mp hi).1
  refine wpAny_bind (wpAny_bindName (store_ok (v := V.non) I9 hN hi (.inl hl) rfl (fun s10 I10 => ?_) (.inr hl)))
  unfold unbindBehindTheSuite
  refine wpAny_onRaise (del_ok (v := V.non) I10 hN hi hl (List.getElem?_set_self hiσ) fun s11 I11 => k9 s11 ?_)
  rw [List.set_set] at I11
  exact I11
end
end L2
set_option Elab.async false
set_option linter.all false
set_option maxRecDepth 100000
set_option maxHeartbeats 4000000
namespace PySem
open Sem (wp)
section
variable {prog : Program} {w : World} {A : Around} {E : Value → Shared → Prop} {h : Heap} {g : Array GenState} {d : Drawn} {t : Nat} {os : OsState} {a : Addr} {o : Obj}
  {nm q : Str} {C N : Addr} {bs bm : List Value} {hdct : Bool} {sn : List Str} {sub : List Value} {ab : Bool} {col : Option Bool} {dd : Option Addr} {k0 k1 k2 k3 k5 : Option Value} {newId : String}
theorem ck_get {R : Result → Shared → Prop} (hC : h.get? C = some (excClassObj nm q C N bs bm hdct sn sub ab col dd k0 k1 k2 k3 k5 newId)) (hobj : bm.contains (.type "object") = true)
    (hx : h.get? a = some o) (hc : o.cls = .ref C) (hq : R (.ok (.ret (.ref C))) ⟨h, g, d, t, os⟩) :
    codeAny (model prog w) A (.call (.builtin "getset_descriptor.__get__") ⟨[.builtin "object.__class__", .ref a, .ref C], []⟩) R ⟨h, g, d, t, os⟩ := by
  have hT5 : (⟨h, g, d, t, os⟩ : Shared).TypeIs (.builtin "object.__class__") "getset_descriptor" := F.typeOf_object_class
  have hcB : (Value.ref C :: bm).contains (.type (".".intercalate ("object.__class__".cutAt '.').dropLast)) = true := by
    rw [F.owner_object_class, List.contains_cons, hobj]; rfl
  refine codeAny_call_builtin F.slot_gs_get.plain F.entry_gs_get (F.slot_gs_get.check _ _ _ _ _ _ _ _ hT5 (F.args_gs_get _ _ _) ?_)
  repeat (any_goals (first | assumption | (with_reducible refine wpAny_loadPart_at hx ?_; rw [hc]) | (with_reducible refine wpAny_isSubtype_exc hC ?_; rw [hcB]) | wp_step))
  refine ⟨Code.quiet_builtin _ (by decide +kernel), codeAny_builtin F.entry_object_class ?_⟩
  repeat (any_goals (first | assumption | (with_reducible refine wpAny_loadPart_at hx ?_; rw [hc]) | wp_step))
theorem ck_entry {tk : Tok} {Q : Fin → Shared → Prop} (hC : h.get? C = some (excClassObj nm q C N bs bm hdct sn sub ab col dd k0 k1 k2 k3 k5 newId)) (hobj : bm.contains (.type "object") = true)
    (L : PySem.W.Looks (model prog w) h (typeLookup (.ref C) "__class__") (some (.builtin "object.__class__"))) (hx : h.get? a = some o) (hc : o.cls = .ref C) (hq : Q (.done (.ret (.ref C))) ⟨h, g, d, t, os⟩) :
    wpAny (model prog w) A (Builtin.«object.__getattribute__» ⟨[.ref a, .str "__class__" tk], []⟩) Q E ⟨h, g, d, t, os⟩ := by
  have L' : ∀ (A : Around) (Q : Option Value → Shared → Prop) (E : Value → Shared → Prop) (g : Array GenState) (d : Drawn) (t : Nat) (os : OsState), Q (some (.builtin "object.__class__")) ⟨h, g, d, t, os⟩ → wpAny (model prog w) A (typeLookup (.ref C) "__class__") Q E ⟨h, g, d, t, os⟩ := fun A Q E g d t os hq => L A Q E ⟨h, g, d, t, os⟩ (fun _ _ e => e) hq
  have hT5 : (⟨h, g, d, t, os⟩ : Shared).TypeIs (.builtin "object.__class__") "getset_descriptor" := F.typeOf_object_class
  have f5 := F.typeOf_object_class
  have f6 := F.slot_gs_get.lookup
  have f7 := F.slot_gs_set.lookup
  repeat (any_goals (first | assumption | (with_reducible refine wpAny_loadPart_at hx ?_; rw [hc]) | with_reducible refine L' _ _ _ _ _ _ _ ?_ | wp_step))
  refine ck_get hC hobj hx hc ?_
  repeat (any_goals (first | assumption | wp_step))
theorem ck_check {M : Model} {nameV : Value} {Q : Unit → Shared → Prop} (hC : h.get? C = some (excClassObj nm q C N bs bm hdct sn sub ab col dd k0 k1 k2 k3 k5 newId)) (hbe : bm.contains (.type "BaseException") = true)
    (hx : h.get? a = some o) (hc : o.cls = .ref C) (hq : Q () ⟨h, g, d, t, os⟩) : wpAny M A (checkBuiltinCall "BaseException.__getattribute__" ⟨[.ref a, nameV], []⟩) Q E ⟨h, g, d, t, os⟩ := by
  have hk : builtinKind "BaseException.__getattribute__" = some .slot := by decide +kernel
  have hsplit : splitId "BaseException.__getattribute__" = some ("BaseException", "__getattribute__") := by decide +kernel
  have hcB : (Value.ref C :: bm).contains (.type "BaseException") = true := by rw [List.contains_cons, hbe]; rfl
  have ha := F.args_bexc_ga (.ref a) nameV
  simp only [checkBuiltinCall, hk, hsplit]
  refine wpAny_bind ?_
  · unfold isInstance
    repeat (first | (with_reducible refine wpAny_loadPart_at hx ?_; rw [hc]) | (with_reducible refine wpAny_isSubtype_exc hC ?_; rw [hcB]) | wp_step)
    exact hq
theorem ck_call {tk : Tok} {R : Result → Shared → Prop} (hC : h.get? C = some (excClassObj nm q C N bs bm hdct sn sub ab col dd k0 k1 k2 k3 k5 newId)) (hobj : bm.contains (.type "object") = true) (hbe : bm.contains (.type "BaseException") = true)
    (L : PySem.W.Looks (model prog w) h (typeLookup (.ref C) "__class__") (some (.builtin "object.__class__"))) (hx : h.get? a = some o) (hc : o.cls = .ref C) (hq : R (.ok (.ret (.ref C))) ⟨h, g, d, t, os⟩) :
    codeAny (model prog w) A (.call (.builtin "BaseException.__getattribute__") ⟨[.ref a, .str "__class__" tk], []⟩) R ⟨h, g, d, t, os⟩ :=
  codeAny_call_builtin F.attr_ValueError.ga.plain F.entry_bexc_ga (ck_check hC hbe hx hc (ck_entry hC hobj L hx hc hq))
theorem ck_by {tk : Tok} {Q : Value → Shared → Prop} (hC : h.get? C = some (excClassObj nm q C N bs bm hdct sn sub ab col dd k0 k1 k2 k3 k5 newId)) (hobj : bm.contains (.type "object") = true) (hbe : bm.contains (.type "BaseException") = true)
    (L : PySem.W.Looks (model prog w) h (typeLookup (.ref C) "__class__") (some (.builtin "object.__class__"))) (L1 : PySem.W.Looks (model prog w) h (typeLookup (.ref C) "__getattribute__") (some (.builtin "BaseException.__getattribute__")))
    (L2 : PySem.W.Looks (model prog w) h (typeLookup (.ref C) "__getattr__") none) (hx : h.get? a = some o) (hc : o.cls = .ref C) (hq : Q (.ref C) ⟨h, g, d, t, os⟩) :
    wpAny (model prog w) A (getAttrBy (.ref a) (.str "__class__" tk) false) Q E ⟨h, g, d, t, os⟩ := by
  have L1' : ∀ (A : Around) (Q : Option Value → Shared → Prop) (E : Value → Shared → Prop) (g : Array GenState) (d : Drawn) (t : Nat) (os : OsState), Q (some (.builtin "BaseException.__getattribute__")) ⟨h, g, d, t, os⟩ → wpAny (model prog w) A (typeLookup (.ref C) "__getattribute__") Q E ⟨h, g, d, t, os⟩ := fun A Q E g d t os hq => L1 A Q E ⟨h, g, d, t, os⟩ (fun _ _ e => e) hq
  have L2' : ∀ (A : Around) (Q : Option Value → Shared → Prop) (E : Value → Shared → Prop) (g : Array GenState) (d : Drawn) (t : Nat) (os : OsState), Q none ⟨h, g, d, t, os⟩ → wpAny (model prog w) A (typeLookup (.ref C) "__getattr__") Q E ⟨h, g, d, t, os⟩ := fun A Q E g d t os hq => L2 A Q E ⟨h, g, d, t, os⟩ (fun _ _ e => e) hq
  have f3 := F.attr_ValueError.ga.bind (.ref a)
  have hx2 : (Value.builtin "BaseException.__getattribute__" == Value.builtin "object.__getattribute__") = false := by decide +kernel
  have hx1 : (onTheHeap (Value.ref C) && Value.builtin "BaseException.__getattribute__" == Value.builtin "object.__getattribute__") = false := by rw [hx2]; rfl
  repeat (any_goals (first | assumption | (with_reducible refine wpAny_loadPart_at hx ?_; rw [hc]) | with_reducible refine L1' _ _ _ _ _ _ _ ?_ | with_reducible refine L2' _ _ _ _ _ _ _ ?_ | wp_step))
  refine ck_call hC hobj hbe L hx hc ?_
  repeat (any_goals (first | assumption | wp_step))
theorem ck_attr {Q : Option Value → Shared → Prop} (hC : h.get? C = some (excClassObj nm q C N bs bm hdct sn sub ab col dd k0 k1 k2 k3 k5 newId)) (hobj : bm.contains (.type "object") = true) (hbe : bm.contains (.type "BaseException") = true)
    (L : PySem.W.Looks (model prog w) h (typeLookup (.ref C) "__class__") (some (.builtin "object.__class__"))) (L1 : PySem.W.Looks (model prog w) h (typeLookup (.ref C) "__getattribute__") (some (.builtin "BaseException.__getattribute__")))
    (L2 : PySem.W.Looks (model prog w) h (typeLookup (.ref C) "__getattr__") none) (hx : h.get? a = some o) (hc : o.cls = .ref C) (hq : Q (some (.ref C)) ⟨h, g, d, t + 1, os⟩) :
    wpAny (model prog w) A (getAttr? (.ref a) "__class__") Q E ⟨h, g, d, t, os⟩ := by
  unfold getAttr? getAttrBy?
  repeat (any_goals (first | assumption | with_reducible apply ck_by hC hobj hbe L L1 L2 hx hc | wp_step))
end
end PySem
namespace L2
open PySem PySem.Spec PyProof.Rows
structure ExcI (K : PySem.W.Frag) (C : Addr) : Prop extends ExcCls K C where
  cl : PySem.W.findIn K (.ref C) "__class__" = some (some (.builtin "object.__class__"))
  ga : PySem.W.findIn K (.ref C) "__getattribute__" = some (some (.builtin "BaseException.__getattribute__"))
  gt : PySem.W.findIn K (.ref C) "__getattr__" = some none
theorem ExcCls.look {K : PySem.W.Frag} {C : Addr} (c : ExcCls K C) : ∃ o d cd sl, K.lookup C = some ⟨o, d, .cls cd, sl⟩ := by
  have q := c.ex
  unfold PySem.W.excIn at q
  split at q
  · rename_i dd cd sl ho
    exact ⟨_, _, _, _, ho⟩
  · cases q
theorem kitx_exc {K : PySem.W.Frag} {ea C : Addr} (c : ExcI K C) : PySem.W.KitX K (.ref ea) (.ref C) (excAt ea C) where
  ty := fun M h _ ⟨o, vs, e, hc, _⟩ => hc ▸ (PySem.W.Looks.ld e).andThen .now
  it := fun M h X _ => by
    obtain ⟨o, d, cd, sl, ho⟩ := c.toExcCls.look
    intro A' Q' E' s' k q
    unfold isType loadHead
    exact wpAny_bind (wpAny_loadPart (k _ _ (X _ _ ho)) (wpAny_pure q))
  ne := fun h tp dd its n sl X htp => by
    obtain ⟨o, d, cd, sl', ho⟩ := c.toExcCls.look
    refine Bool.eq_false_iff.mpr fun q => ?_
    have e : C = tp := Value.ref.inj (beq_iff_eq.mp q)
    subst e
    have z := (X _ _ ho).symm.trans htp
    cases z
  ca := fun {prog w A E Q s} X p k => by
    obtain ⟨o, vs, e, hc, _⟩ := p
    obtain ⟨tl, N, nm, q, bs, hdct, sn, sub, ab, col, dd, k0, k1, k2, k3, k5, mN, hC, hN, hni, T⟩ := exc_obj X c.ex
    obtain ⟨hh, g, d, tt, os⟩ := s
    exact ck_attr hC (T.hasType (by decide)) (T.hasType (by decide)) (PySem.W.looks_findIn X c.cl) (PySem.W.looks_findIn X c.ga) (PySem.W.looks_findIn X c.gt) e hc k
inductive TyX (K : PySem.W.Frag) (H : Hp) : V → Value → Prop where
  | of {v : V} {t : Value} : TyOf K H v t → TyX K H v t
  | exc {ea C : Addr} (e : H ea = some (.ext (excAt ea C))) (c : ExcI K C) : TyX K H (.ref ea) (.ref C)
def clsV : V → Option Value
  | .ty n => some (.type n)
  | .ref C => some (.ref C)
  | _ => none
section
variable {X : Cx}
theorem call_isinstG : CallR X (.builtin "isinstance") (fun xs H Q => ∃ x c cv t b, xs = [x, c] ∧ clsV c = some cv ∧ TyX X.K H x t ∧ PySem.W.kitOne X.K t cv = some b ∧ Q (.bl b) H) := by
  intro pins s σ H xs us Q I r h
  obtain ⟨x, c, cv, t, b, rfl, hcv, ty, e, q⟩ := h
  obtain ⟨u, u', rfl, ru, ru'⟩ := vals2 r
  have eu : u' = cv := by
    cases c with
    | ty n => cases hcv; exact ru'
    | ref C => cases hcv; exact ru'
    | _ => cases hcv
  rw [eu]
  cases ty with
  | of ty => exact isinst_ok I ru ty e fun tk => ⟨.bl b, H, I.tok _, rfl, q⟩
  | @exc ea C eH c =>
    cases (show u = Value.ref ea from ru)
    obtain ⟨hp, _, _⟩ := (show ObjOk X.prog X.w H s.heap ea (.ext (excAt ea C)) from I.hok ea _ eH)
    exact PySem.W.kia_one (kitx_exc c) I.kIn hp e (fun z => nomatch z) fun tk => ⟨.bl b, H, I.tok _, rfl, q⟩
end
end L2
set_option Elab.async false
set_option linter.all false
set_option maxRecDepth 100000
set_option maxHeartbeats 4000000
namespace PySem
namespace F
end F
section
variable {prog : Program} {w : World} {A : Around} {E : Value → Shared → Prop} {s : Shared}
def Heap.IsRvd (h : Heap) (a l : Addr) (i : Int) : Prop := ∃ o, h.get? a = some o ∧ o.cls = .type "reversed" ∧ o.data = .fields #[.ref l, rawInt i]
theorem Heap.IsRvd.typeIs {a l : Addr} {i : Int} (x : s.heap.IsRvd a l i) : s.TypeIs (.ref a) "reversed" := let ⟨o, ho, hc, _⟩ := x; ⟨o, ho, hc⟩
theorem Heap.IsRvd.at {h h' : Heap} {a l : Addr} {i : Int} (x : h.IsRvd a l i) (e : ∀ o, h.get? a = some o → h'.get? a = some o) : h'.IsRvd a l i := let ⟨o, ho, r⟩ := x; ⟨o, e _ ho, r⟩
end
end PySem
namespace L2
open PySem PySem.Spec PyProof.Rows
end L2
set_option Elab.async false
set_option linter.all false
set_option maxRecDepth 100000
set_option maxHeartbeats 4000000
namespace PySem
namespace F
end F
end PySem
namespace L2
open PySem PySem.Spec PyProof.Rows
end L2
set_option Elab.async false
set_option linter.all false
set_option maxRecDepth 100000
set_option maxHeartbeats 4000000
namespace L2
open PySem PySem.Spec PyProof.Rows
end L2
set_option Elab.async false
set_option linter.all false
set_option maxRecDepth 100000
set_option maxHeartbeats 4000000
namespace PySem
section
variable {prog : Program} {w : World} {A : Around} {E : Value → Shared → Prop} {s : Shared}
theorem nextOf_tup_item {it t : Addr} {i : Nat} {items : Array Value} {x : Value} {Q : Value → Shared → Prop} (hit : s.heap.IsTupleIter it t i) (ht : s.heap.IsTuple t items) (hx : items[i]? = some x)
    (hQ : ∀ h', h'.IsTupleIter it t (i + 1) → Heap.SameBut it s.heap h' → Q x { s with heap := h' }) : wpAny (model prog w) A (Builtin.SmallTypes.nextOf (.ref it)) Q E s := by
  obtain ⟨o, ho, hc, hd⟩ := id hit
  obtain ⟨ol, hol, _, nl, hdl⟩ := ht
  unfold Builtin.SmallTypes.nextOf
  refine wpAny_bind (wpAny_callSpecial?_slot (name := Str.ofString "__next__") hit.typeIs F.slot_tuple_iterator_next
    (wpAny_call_entry F.slot_tuple_iterator_next hit.typeIs F.entry_tuple_iterator_next ?_ (F.args_tuple_iterator_next_1 _)))
  show wpAny _ _ (field (.ref it) 0 >>= _) _ _ s
  refine wpAny_bind (wpAny_field ho hd (x := .ref t) rfl ?_)
  show wpAny _ _ (if (Value.ref t == Value.none) = true then _ else _) _ _ s
  rw [if_neg (show ¬ ((Value.ref t == Value.none) = true) from Bool.false_ne_true)]
  show wpAny _ _ (field (.ref it) 1 >>= _) _ _ s
  refine wpAny_bind (wpAny_field ho hd (x := .int i 0) rfl ?_)
  show wpAny _ _ (seqItems? (.ref t) >>= _) _ _ s
  refine wpAny_bind (wpAny_seqItems hol hdl ?_)
  simp only [Int.toNat_natCast, hx]
  refine wpAny_bind (wpAny_setField ho hd (by simp) (wpAny_pure ⟨x, rfl, wpAny_pure (hQ _ ?_ (Heap.SameBut.update ..))⟩))
  exact ⟨_, Heap.get?_update_self _ ho (Obj.isFreed_of_fields (Obj.data_mapFields hd _)), (Obj.cls_mapFields ..).trans hc, by
    rw [Obj.data_mapFields hd]; simp [rawInt]⟩
theorem nextOf_tup_end {it t : Addr} {i : Nat} {items : Array Value} {Q : Value → Shared → Prop} (hh : A.handled = none) (hit : s.heap.IsTupleIter it t i) (ht : s.heap.IsTuple t items) (hx : items[i]? = none)
    (hE : ∀ h' e, Heap.ExtBut it s.heap h' → (∃ o, h'.get? e = some o ∧ o.cls = .type "StopIteration") → E (.ref e) { s with heap := h' }) : wpAny (model prog w) A (Builtin.SmallTypes.nextOf (.ref it)) Q E s := by
  obtain ⟨o, ho, hc, hd⟩ := id hit
  obtain ⟨ol, hol, _, nl, hdl⟩ := ht
  unfold Builtin.SmallTypes.nextOf
  refine wpAny_bind (wpAny_callSpecial?_slot (name := Str.ofString "__next__") hit.typeIs F.slot_tuple_iterator_next
    (wpAny_call_entry F.slot_tuple_iterator_next hit.typeIs F.entry_tuple_iterator_next ?_ (F.args_tuple_iterator_next_1 _)))
  show wpAny _ _ (field (.ref it) 0 >>= _) _ _ s
  refine wpAny_bind (wpAny_field ho hd (x := .ref t) rfl ?_)
  show wpAny _ _ (if (Value.ref t == Value.none) = true then _ else _) _ _ s
  rw [if_neg (show ¬ ((Value.ref t == Value.none) = true) from Bool.false_ne_true)]
  show wpAny _ _ (field (.ref it) 1 >>= _) _ _ s
  refine wpAny_bind (wpAny_field ho hd (x := .int i 0) rfl ?_)
  show wpAny _ _ (seqItems? (.ref t) >>= _) _ _ s
  refine wpAny_bind (wpAny_seqItems hol hdl ?_)
  simp only [Int.toNat_natCast, hx]
  refine wpAny_bind (wpAny_rule (wpAny_bind (wpAny_setField ho hd (by simp) ?_)))
  show wpAny _ _ (newExc (.type "StopIteration") [] >>= _) _ _ _
  refine wpAny_bind ?_
  simp only [newExc, newTuple]
  refine wpAny_bind (wpAny_newObj_type ?_ (by size_fits))
  refine wpAny_bind (m := firstArgMember _ _) (wpAny_of_eq (a := Value.none) (by first | rfl | (simp only [firstArgMember]; rfl)) ?_)
  refine wpAny_newObj_type ?_ (by size_fits)
  simp only [raiseNew]
  refine wpAny_bind (wpAny_handled ?_)
  first | rw [show A.in1.handled = none from hh] | rw [hh]
  refine wpAny_bind (wpAny_pure (wpAny_throw ?_))
  refine hE _ _ (fun b ob hb e => Heap.get?_push_of_some _ (Heap.get?_push_of_some _ ((Heap.get?_update_other _ _ (Ne.symm hb)).trans e))) ⟨_, Heap.get?_push_size _ rfl, rfl⟩
theorem Draws.tup {A : Around} (hh : A.handled = none) (it l : Addr) (hne : l ≠ it) (items : Array Value) :
    Draws prog w A it [it, l] items.size (fun i v => items[i]? = some v) (fun i h => h.IsTupleIter it l i ∧ h.IsTuple l items) where
  live := fun _ _ st => let ⟨o, ho, _⟩ := st.1; ⟨o, ho⟩
  frame := fun _ _ _ st hk => ⟨st.1.at fun o e => hk it (by simp) o e, let ⟨o, ho, r⟩ := st.2; ⟨o, hk l (by simp) o ho, r⟩⟩
  item := fun i s Q E hi st hQ => by
    refine nextOf_tup_item st.1 st.2 (x := items[i]) (by simp [hi]) fun h' hit' hs' => ?_
    exact hQ _ h' s.toks (by simp [hi]) ⟨hit', let ⟨o, ho, r⟩ := st.2; ⟨o, (hs'.2 l hne).trans ho, r⟩⟩ hs'
  done := fun s Q E st hE => nextOf_tup_end hh st.1 st.2 (by simp) hE
end
end PySem
namespace L2
open PySem PySem.Spec PyProof.Rows
end L2
set_option Elab.async false
set_option linter.all false
set_option maxRecDepth 100000
set_option maxHeartbeats 4000000
namespace PySem
open PyProof.Rows (SetOf_congr setObjOf_fresh)
def Cnt (ss : List Str) (i m : Nat) : Prop := m ≤ i ∧ (m = i ↔ (ss.take i).Nodup)
theorem Cnt.zero (ss : List Str) : Cnt ss 0 0 := ⟨Nat.le_refl _, by simp⟩
theorem take_nodup {ss : List Str} {i : Nat} {x : Str} (hx : ss[i]? = some x) : (ss.take (i + 1)).Nodup ↔ (ss.take i).Nodup ∧ x ∉ ss.take i := by
  rw [List.take_succ, hx]
  show (ss.take i ++ [x]).Nodup ↔ _
  rw [List.nodup_append]
  constructor
  · intro h
    exact ⟨h.1, fun m => h.2.2 x m x (by simp) rfl⟩
  · intro h
    refine ⟨h.1, by simp, fun a ha b hb e => ?_⟩
    have : b = x := by simpa using hb
    exact h.2 (by rw [← this, ← e]; exact ha)
theorem Cnt.next {ss : List Str} {i m : Nat} {x : Str} (h : Cnt ss i m) (hx : ss[i]? = some x) : Cnt ss (i + 1) (if decide (x ∈ ss.take i) = true then m else m + 1) := by
  obtain ⟨h1, h2⟩ := h
  refine ⟨by split <;> omega, ?_⟩
  rw [take_nodup hx]
  by_cases hm : x ∈ ss.take i
  · rw [if_pos (by simpa using hm)]
    constructor
    · intro e; omega
    · intro z; exact absurd hm z.2
  · rw [if_neg (by simpa using hm)]
    constructor
    · intro e; exact ⟨h2.mp (by omega), hm⟩
    · intro z; rw [h2.mpr z.1]
end PySem
namespace L2
open PySem PySem.Spec PyProof.Rows
end L2
set_option Elab.async false
set_option linter.all false
set_option maxRecDepth 100000
set_option maxHeartbeats 4000000
namespace L2
open PySem PySem.Spec PyProof.Rows
section
variable {X : Cx} {K : PySem.W.Frag}
theorem op_in_seqK (e : X.K = K) : OpR X (compareOp .In) (rIn K false) := e ▸ op_in_seq
theorem op_notIn_seqK (e : X.K = K) : OpR X (compareOp .NotIn) (rIn K true) := e ▸ op_notIn_seq
theorem ix_listK (e : X.K = K) : IxR X (rIxL K) := e ▸ ix_list
theorem ix_tupK (e : X.K = K) : IxR X (rIxT K) := e ▸ ix_tup
theorem sl_tupK (e : X.K = K) : SlR X (rSlT K) := e ▸ sl_tup
theorem op_eqDK (e : X.K = K) (hu : X.A.units + 64 < cLine) : OpR X (compareOp .Eq) (rEqD K) := e ▸ op_eqD hu
theorem call_isinstGK (e : X.K = K) : CallR X (.builtin "isinstance") (fun xs H Q => ∃ x c cv t b, xs = [x, c] ∧ clsV c = some cv ∧ TyX K H x t ∧ PySem.W.kitOne K t cv = some b ∧ Q (.bl b) H) := by subst e; exact call_isinstG
theorem q_pg_tupK {pos : Pos} {es : List Expr} {k : Nat} {t : TGs} (n : Nat) (e : X.K = K) (hc : X.calm = true) (h : QGs X es t) (hn : (assignEach es X.env).length = n := by rfl) (hst : (assignEach es X.env).findIdx? (·.1) = none := by rfl) : QG X (.Tuple es k pos) (gTup K n t) := by subst e; exact q_pg_tup hc h hn hst
end
end L2
set_option Elab.async false
set_option linter.all false
set_option maxRecDepth 100000
set_option maxHeartbeats 4000000
namespace Ck
open PySem L2
abbrev letters : Str := "abcdefghijklmnopqrstuvwxyz"
def madeOf (x y : Str) : Bool := decide (0 < x.length) && x.cps.toList.all fun c => decide (c ∈ y.cps.toList)
def nameOk (x : Str) : Bool := madeOf x letters && decide (x.length ≤ 8)
theorem tl_app (x y : Str) : (x ++ y).cps.toList = x.cps.toList ++ y.cps.toList := by
  show (x.cps ++ y.cps).toList = _
  simp
theorem nameOk_iff {x : Str} : nameOk x = true ↔ 0 < x.length ∧ x.length ≤ 8 ∧ ∀ c ∈ x.cps.toList, c ∈ letters.cps.toList := by
  unfold nameOk madeOf
  rw [Bool.and_eq_true, Bool.and_eq_true, decide_eq_true_eq, decide_eq_true_eq, List.all_eq_true]
  constructor
  · rintro ⟨⟨a, b⟩, c⟩
    exact ⟨a, c, fun z hz => of_decide_eq_true (b z hz)⟩
  · rintro ⟨a, c, b⟩
    exact ⟨⟨a, fun z hz => decide_eq_true (b z hz)⟩, c⟩
theorem letters_lt : ∀ c ∈ letters.cps.toList, c < 1114112 := by
  have all : letters.cps.toList.all (fun c => decide (c < 1114112)) = true := by decide +kernel
  exact fun c hc => of_decide_eq_true (List.all_eq_true.mp all c hc)
theorem nameOk.okt {x : Str} (h : nameOk x = true) : Okt x := fun c hc => letters_lt c ((nameOk_iff.mp h).2.2 c hc)
theorem inV_strs (x : Str) (ws : List Str) : inV (.str x) (ws.map V.str) = decide (x ∈ ws) := by
  unfold inV
  induction ws with
  | nil => rfl
  | cons y r ih =>
    rw [List.map_cons, List.any_cons, ih, Bool.eq_iff_iff]
    have e : eqV (V.str y) (V.str x) = (y == x) := rfl
    rw [e, Bool.or_eq_true, beq_iff_eq, decide_eq_true_eq, decide_eq_true_eq, List.mem_cons]
    constructor
    · rintro (rfl | z)
      · exact .inl rfl
      · exact .inr z
    · rintro (rfl | z)
      · exact .inl rfl
      · exact .inr z
theorem flat_strs (ws : List Str) : (ws.map V.str).all flatV = true := by
  rw [List.all_map, List.all_eq_true]
  intro x _
  rfl
theorem pigeon {α : Type} [DecidableEq α] : ∀ (l f : List α), l.Nodup → (∀ x ∈ l, x ∈ f) → l.length ≤ f.length
  | [], _, _, _ => Nat.zero_le _
  | x :: l, f, hn, h => by
    have hx := h x List.mem_cons_self
    rw [List.nodup_cons] at hn
    have ih := pigeon l (f.erase x) hn.2 fun y hy => by
      have ne : y ≠ x := fun e => hn.1 (e ▸ hy)
      exact (List.mem_erase_of_ne ne).mpr (h y (List.mem_cons_of_mem _ hy))
    rw [List.length_erase_of_mem hx] at ih
    have := List.length_pos_of_mem hx
    rw [List.length_cons]
    omega
theorem letters_nodup : letters.cps.toList.Nodup := by decide +kernel
theorem letters_len : letters.cps.toList.length = 26 := by decide +kernel
theorem free_sign (y : Str) (ws : List Str) (h : ws.length < 26) : (letters.cps.toList.filter fun c => !decide (y ++ sgn c ∈ ws)) ≠ [] := by
  intro e
  have hall : ∀ c ∈ letters.cps.toList, y ++ sgn c ∈ ws := fun c hc => by
    have z := List.filter_eq_nil_iff.mp e c hc
    simpa using z
  have hn : (letters.cps.toList.map fun c => y ++ sgn c).Nodup := by
    refine List.Pairwise.map _ ?_ letters_nodup
    intro a b ne e
    have e2 := congrArg (fun z : Str => z.cps.toList) e
    simp only [tl_app] at e2
    have e3 := List.append_cancel_left e2
    exact ne (by simpa using e3)
  have := pigeon _ ws hn fun x hx => by
    obtain ⟨c, hc, rfl⟩ := List.mem_map.mp hx
    exact hall c hc
  rw [List.length_map, letters_len] at this
  omega
theorem nameOk_cut {x : Str} {c : Nat} (h : nameOk x = true) (hc : c ∈ letters.cps.toList) : nameOk (cutS x none (some 7) ++ sgn c) = true := by
  obtain ⟨h0, h1, h2⟩ := nameOk_iff.mp h
  have hl : (cutS x none (some 7)).length ≤ 7 := by
    have e : (cutS x none (some 7)).length = (cutS x none (some 7)).cps.toList.length := str_len _
    rw [e]
    unfold cutS
    rw [List.length_take]
    have : HT.sIx x.length x.length (some 7) ≤ 7 := by
      unfold HT.sIx; dsimp only; split <;> omega
    first | omega | (show min (HT.sIx x.length x.length (some 7) - HT.sIx x.length 0 none) _ ≤ 7; omega)
  refine nameOk_iff.mpr ⟨by rw [len_app]; show 0 < _ + 1; omega, by rw [len_app]; show _ + 1 ≤ 8; omega, fun b hb => ?_⟩
  rw [tl_app] at hb
  rcases List.mem_append.mp hb with z | z
  · unfold cutS at z
    exact h2 b (List.mem_of_mem_drop (List.mem_of_mem_take z))
  · rw [show b = c by simpa using z]; exact hc
end Ck
set_option Elab.async false
set_option linter.all false
set_option maxRecDepth 100000
set_option maxHeartbeats 4000000
namespace Ck
open PySem L2
abbrev Un1 := Str × Int
structure UsAt (H : Hp) (rs : List Addr) (us : List Un1) : Prop where
  len : rs.length = us.length
  at_ : ∀ (i : Nat) (r : Addr), rs[i]? = some r → ∃ u, us[i]? = some u ∧ H r = some (.tup [.str u.1, .int u.2])
def Tups (H H' : Hp) : Prop := ∀ b xs, H b = some (.tup xs) → H' b = some (.tup xs)
theorem Tups.refl (H : Hp) : Tups H H := fun _ _ h => h
theorem Tups.trans {H H1 H2 : Hp} (a : Tups H H1) (b : Tups H1 H2) : Tups H H2 := fun c xs h => b c xs (a c xs h)
theorem Tups.same {H H' : Hp} (s : Same H H') : Tups H H' := fun b xs h => s b _ h
theorem Keep.tups {d : Addr} {H H' : Hp} {xs : List V} (k : Keep d H H') (hd : H d = some (.lst xs)) : Tups H H' := fun b ys h => k b _ h fun e => by rw [e, hd] at h; cases h
theorem DrawAt.tups {K : PySem.W.Frag} {H H' : Hp} {d a : Addr} {ns : List Int} (D : DrawAt K H d a ns) (k : Keep d H H') : Tups H H' := by
  obtain ⟨z, _, h⟩ := D.ex
  exact k.tups h
theorem Tups.upd {H : Hp} {p : Addr} {xs : List V} {o : HO} (h : H p = some (.lst xs)) : Tups H (upd H p o) := fun b ys e => by
  rw [upd_ne (fun z => by rw [z, h] at e; cases e)]
  exact e
theorem UsAt.mono {H H' : Hp} {rs : List Addr} {us : List Un1} (u : UsAt H rs us) (t : Tups H H') : UsAt H' rs us :=
  ⟨u.len, fun i r h => let ⟨x, hx, e⟩ := u.at_ i r h; ⟨x, hx, t _ _ e⟩⟩
theorem UsAt.nil (H : Hp) : UsAt H [] [] := ⟨rfl, fun i r h => by simp at h⟩
theorem UsAt.snoc {H : Hp} {rs : List Addr} {us : List Un1} {r : Addr} {n : Str} {m : Int} (u : UsAt H rs us) (h : H r = some (.tup [.str n, .int m])) : UsAt H (rs ++ [r]) (us ++ [(n, m)]) := by
  refine ⟨by rw [List.length_append, List.length_append, u.len]; rfl, fun i q hq => ?_⟩
  rw [List.getElem?_append] at hq ⊢
  by_cases hi : i < rs.length
  · rw [if_pos hi] at hq
    rw [if_pos (by rw [← u.len]; exact hi)]
    exact u.at_ i q hq
  · rw [if_neg hi] at hq
    rw [if_neg (by rw [← u.len]; exact hi), ← u.len]
    have e : i - rs.length = 0 := by
      have := (List.getElem?_eq_some_iff.mp hq).1
      simp at this; omega
    rw [e] at hq ⊢
    cases hq
    exact ⟨_, rfl, h⟩
theorem UsAt.init {H : Hp} {rs : List Addr} {us : List Un1} {r : Addr} {x : Un1} (u : UsAt H (rs ++ [r]) (us ++ [x])) : UsAt H rs us ∧ H r = some (.tup [.str x.1, .int x.2]) := by
  have l : rs.length = us.length := by have := u.len; simp at this; exact this
  refine ⟨⟨l, fun i q hq => ?_⟩, ?_⟩
  · have hi := (List.getElem?_eq_some_iff.mp hq).1
    obtain ⟨v, hv, e⟩ := u.at_ i q (by rw [List.getElem?_append_left hi]; exact hq)
    rw [List.getElem?_append_left (by omega)] at hv
    exact ⟨v, hv, e⟩
  · obtain ⟨v, hv, e⟩ := u.at_ rs.length r (by rw [List.getElem?_append_right (Nat.le_refl _)]; simp)
    rw [l, List.getElem?_append_right (Nat.le_refl _)] at hv
    simp at hv
    rw [← hv] at e; exact e
structure Good (pre : List Un1) (z : Str) : Prop where
  len : pre.length ≤ 5
  nm : ∀ u ∈ pre, nameOk u.1 = true
  nz : nameOk z = true
  many : ∀ u ∈ pre, 2 ≤ u.2 ∧ u.2 ≤ 1000
  nd : (pre.map (·.1) ++ [z]).Nodup
def Units (H : Hp) (p : Addr) (pre : List Un1) (z : Str) : Prop := ∃ (rs : List Addr) (r : Addr), H p = some (.tup (rs.map V.ref ++ [.ref r])) ∧ UsAt H rs pre ∧ H r = some (.tup [.str z, .int 1])
theorem Units.mono {H H' : Hp} {p : Addr} {pre : List Un1} {z : Str} (u : Units H p pre z) (t : Tups H H') : Units H' p pre z :=
  let ⟨rs, r, h, a, e⟩ := u; ⟨rs, r, t _ _ h, a.mono t, t _ _ e⟩
theorem Units.all {H : Hp} {p : Addr} {pre : List Un1} {z : Str} (u : Units H p pre z) : ∃ rs : List Addr, H p = some (.tup (rs.map V.ref)) ∧ UsAt H rs (pre ++ [(z, 1)]) := by
  obtain ⟨rs, r, h, a, e⟩ := u
  refine ⟨rs ++ [r], ?_, a.snoc e⟩
  rw [h, List.map_append]; rfl
theorem ref_at {rs : List Addr} {i : Nat} {x : V} (h : (rs.map V.ref)[i]? = some x) : ∃ r, rs[i]? = some r ∧ x = .ref r := by
  rw [List.getElem?_map] at h
  cases e : rs[i]? with
  | none => rw [e] at h; cases h
  | some r => rw [e] at h; cases h; exact ⟨r, rfl, rfl⟩
theorem Good.names {pre : List Un1} {z : Str} (g : Good pre z) : ∀ x ∈ (pre ++ [(z, (1 : Int))]).map (·.1), nameOk x = true := by
  intro x hx
  rw [List.map_append] at hx
  rcases List.mem_append.mp hx with h | h
  · obtain ⟨u, hu, rfl⟩ := List.mem_map.mp h
    exact g.nm u hu
  · rw [show x = z by simpa using h]; exact g.nz
end Ck
set_option Elab.async false
set_option linter.all false
set_option maxRecDepth 100000
set_option maxHeartbeats 4000000
namespace Ck
open PySem L2
theorem kit_int_bool {K : PySem.W.Frag} : PySem.W.kitOne K (.type "int") (.type "bool") = some false := by
  unfold PySem.W.kitOne PySem.W.kitCls
  rw [if_neg (by decide)]
  dsimp only
  rw [if_pos (by decide +kernel)]
  rfl
theorem kit_bool_int {K : PySem.W.Frag} : PySem.W.kitOne K (.type "bool") (.type "int") = some true := by
  unfold PySem.W.kitOne PySem.W.kitCls
  rw [if_neg (by decide)]
  dsimp only
  rw [if_pos (by decide +kernel)]
  rfl
theorem iteN {b : Bool} {A B : Prop} (hb : b = true) (h : B) : if (!b) = true then A else B := by subst hb; exact iteF h
def pr : List Int → Int
  | [] => 1
  | m :: r => m * pr r
def sz : List Int → List Int
  | [] => [1]
  | m :: r => m * pr r :: sz r
def rest (a : Int) (ms : List Int) : Nat → Int
  | 0 => a
  | k + 1 => a % pr (ms.drop k)
def part (a : Int) (ms : List Int) (k : Nat) : Int := rest a ms k / pr (ms.drop k)
end Ck
namespace L2
open PySem
theorem q_ps_nox {X : Cx} {st : Stmt} {t : TS} (h : QS X.nox st t) : QS X st t := ⟨fun pins s σ H D I hw => wpAny_mono (h.h pins s σ H D (I.wish _) hw) (fun _ _ q => q.unwish) fun _ _ z => False.elim z⟩
end L2
set_option Elab.async false
set_option linter.all false
set_option maxRecDepth 100000
set_option maxHeartbeats 4000000
namespace L2
open PySem PySem.Spec PyProof.Rows
structure QF (X : Cx) (e : Expr) (t : St → Hp → (Str → Hp → Prop) → Prop) : Prop where
  h : ∀ (pins : List (Addr × Obj)) (s : Shared) (σ : St) (H : Hp) (Q : Str → Hp → Prop), Inv X pins σ H s → t σ H Q →
    wpAny (model X.prog X.w) X.A (eval e X.env) (fun u s' => ∃ x H' tk, Inv X pins σ H' s' ∧ u = .str x tk ∧ Q x H') X.xe s
section
variable {X : Cx} {e : Expr} {te : TE} {pos : Pos}
inductive QFs (X : Cx) : List Expr → (St → Hp → Str → (Str → Hp → Prop) → Prop) → Prop
  | nil : QFs X [] (fun _ H out Q => Q out H)
  | cons {e : Expr} {es : List Expr} {t : St → Hp → (Str → Hp → Prop) → Prop} {r : St → Hp → Str → (Str → Hp → Prop) → Prop} : QF X e t → QFs X es r → QFs X (e :: es) (fun σ H out Q => t σ H fun y H1 => (out ++ y).length ≤ sizeLine ∧ r σ H1 (out ++ y) Q)
theorem QFs.run {es : List Expr} {r : St → Hp → Str → (Str → Hp → Prop) → Prop} (h : QFs X es r) : ∀ (pins : List (Addr × Obj)) (s : Shared) (σ : St) (H : Hp) (out : Str) (Q : VK), out.length ≤ sizeLine → Inv X pins σ H s → r σ H out (fun x H' => Q (.str x) H') →
    wpAny (model X.prog X.w) X.A (joinParts out (evalEach es X.env)) (EP X pins σ Q) X.xe s := by
  induction h with
  | nil =>
    intro pins s σ H out Q hz I h
    exact joinParts_nil ⟨.str out, H, I.tok _, ⟨_, rfl⟩, h⟩ hz
  | cons he hr ih =>
    intro pins s σ H out Q hz I h
    refine joinParts_cons (wpAny_mono (he.h pins s σ H _ I h) (fun u s1 ⟨y, H1, tk, I1, eu, hz1, q⟩ => ?_) fun _ _ z => z)
    subst eu
    exact ⟨hz1, ih pins s1 σ H1 _ Q hz1 I1 q⟩
end
end L2
set_option Elab.async false
set_option linter.all false
set_option maxRecDepth 100000
set_option maxHeartbeats 4000000
namespace PySem
open Sem (wp)
def ItG (t : Bool) (h : Heap) (it l : Addr) (k : Nat) : Prop := ∃ o, h.get? it = some o ∧ o.cls = .type (cond t "tuple_iterator" "list_iterator") ∧ o.data = .fields #[.ref l, .int k 0]
def SqG (t : Bool) (h : Heap) (l : Addr) (xs : Array Value) : Prop := ∃ o, h.get? l = some o ∧ o.cls = .type (cond t "tuple" "list") ∧ ∃ n, o.data = .seq xs n
theorem ItG.at_ {t : Bool} {h h' : Heap} {it l : Addr} {k : Nat} (x : ItG t h it l k) (e : ∀ o, h.get? it = some o → h'.get? it = some o) : ItG t h' it l k := let ⟨o, ho, r⟩ := x; ⟨o, e _ ho, r⟩
theorem SqG.at_ {t : Bool} {h h' : Heap} {l : Addr} {xs : Array Value} (x : SqG t h l xs) (e : ∀ o, h.get? l = some o → h'.get? l = some o) : SqG t h' l xs := let ⟨o, ho, r⟩ := x; ⟨o, e _ ho, r⟩
end PySem
set_option Elab.async false
set_option linter.all false
set_option maxRecDepth 100000
set_option maxHeartbeats 4000000
namespace PySem
end PySem
namespace L2
open PySem PySem.Spec PyProof.Rows
end L2
set_option Elab.async false
set_option linter.all false
set_option maxRecDepth 100000
set_option maxHeartbeats 4000000
namespace L2
open PySem PySem.Spec PyProof.Rows
section
variable {X : Cx} {a b : Expr} {rest : List Expr} {ta tb : TE} {pos : Pos}
def tOrG (K : PySem.W.Frag) (ta tb : TE) : TE := fun σ H Q => ta σ H fun x H1 => ∃ k, TruV K x H1 k ∧ if k = true then Q x H1 else tb σ H1 Q
theorem q_pe_orG (ha : QE X a ta) (hb : QE X (.BoolOp .Or (b :: rest) pos) tb) : QE X (.BoolOp .Or (a :: b :: rest) pos) (tOrG X.K ta tb) := by
  refine ⟨fun pins s σ H Q I h => ?_⟩
  refine BoolOp_or (thn (ha.h pins s σ H _ I h) fun v s1 ⟨x, H1, I1, r1, k, hk, q⟩ => ?_)
  refine thn (tru_ok pins s1 σ H1 x v (fun c H' => c = k ∧ H' = H1) I1 r1 ⟨k, hk, rfl, rfl⟩) fun c s2 ⟨H2, I2, ec, eH⟩ => ?_
  subst ec eH
  cases c with
  | true => exact ⟨x, H2, I2, r1, q⟩
  | false => exact hb.h pins s2 σ H2 Q I2 q
end
end L2
set_option Elab.async false
set_option linter.all false
set_option maxRecDepth 100000
set_option maxHeartbeats 4000000
namespace Ck
open PySem L2
def dig (i : Int) : Str := toString i
def wd (i : Int) (nm : Str) : Str := (dig i ++ " ") ++ nm
end Ck
set_option Elab.async false
set_option linter.all false
set_option maxRecDepth 100000
set_option maxHeartbeats 4000000
namespace L2
open PySem PySem.Spec PyProof.Rows
structure FunD (K : PySem.W.Frag) (x qual : Str) (st : Stmt) (f : Addr) (fd : FuncData) (ds : List Value) : Prop where
  ex : ∃ (oc : Value) (od : Option Addr) (kV doc pm : Value) (an : Option Addr) (cdv ct : Value) (osl : Array (Option Value)) (T : Addr) (oT : Value) (dT : Option Addr) (nT : Nat) (sT : Array (Option Value)),
    fd = PySem.W.fnOf x qual (defArgs st) (defBody st) (defScope st) (.ref T) kV doc pm an cdv ct ∧ K.lookup f = some ⟨oc, od, .func fd, osl⟩ ∧ PySem.W.codeIn K cdv qual = true ∧ K.lookup T = some ⟨oT, dT, .seq ds.toArray nT, sT⟩
  kp : PySem.W.keepIn K (.ref f) = true
section
variable {P : Program} {w : World} {K : PySem.W.Frag} {mg : Str → Option Value} {base : Heap}
theorem FunD.okQ {x qual : Str} {st : Stmt} {f : Addr} {fd : FuncData} {ds : List Value} {N ps : List Str} {k : Nat} {sp : Sp} (F : FunD K x qual st f fd ds) (S : FnScope N ps (defScope st)) (len : ∀ vs H Q E, sp vs H Q E → vs.length = ps.length)
    (hbody : ∀ (cdv : Value) (A : Around) (outer : List Env) (s : Shared) (H : Hp) (vs : List V) (Q : VK) (E : XK), Room k (A.deeper (envOfC qual (defScope st) s.heap.objs.size f cdv)) → sp vs H Q E →
      ∃ t, QSs (cxOf CX0 P w K mg base N qual (defScope st) f cdv A outer s H E).nox (defBody st) t ∧ t { nx := fun _ H' => Q .non H', rt := Q } (start N vs) H) : FnOk P w K mg base CX0 (k + 1) f fd ps sp := by
  obtain ⟨oc, od, kV, doc, pm, an, cdv, ct, osl, T, oT, dT, nT, sT, rfl, lk, hcd, _⟩ := F.ex
  refine fn_of lk hcd S len fun A outer s H vs Q E hr hsp => ?_
  obtain ⟨t, h, q⟩ := hbody cdv A outer s H vs Q E hr hsp
  exact ⟨t, h.h.nox, q⟩
theorem FunD.okX {x qual : Str} {st : Stmt} {f : Addr} {fd : FuncData} {ds : List Value} {N ps : List Str} {k : Nat} {sp : Sp} (F : FunD K x qual st f fd ds) (S : FnScope N ps (defScope st)) (len : ∀ vs H Q E, sp vs H Q E → vs.length = ps.length)
    (hbody : ∀ (cdv : Value) (A : Around) (outer : List Env) (s : Shared) (H : Hp) (vs : List V) (Q : VK) (E : XK), Room k (A.deeper (envOfC qual (defScope st) s.heap.objs.size f cdv)) → sp vs H Q E →
      XOk (cxOf (CX1 P w) P w K mg base N qual (defScope st) f cdv A outer s H E) E →
      ∃ t, QSs (cxOf (CX1 P w) P w K mg base N qual (defScope st) f cdv A outer s H E) (defBody st) t ∧ t { nx := fun _ H' => Q .non H', rt := Q } (start N vs) H) : FnOk P w K mg base (CX1 P w) (k + 1) f fd ps sp := by
  obtain ⟨oc, od, kV, doc, pm, an, cdv, ct, osl, T, oT, dT, nT, sT, rfl, lk, hcd, _⟩ := F.ex
  refine fn_of lk hcd S len fun A outer s H vs Q E hr hsp => ?_
  obtain ⟨t, h, q⟩ := hbody cdv A outer s H vs Q E hr hsp ⟨rfl, rfl, rfl, rfl, rfl⟩
  exact ⟨t, h.h, q⟩
theorem FunD.binds {x qual : Str} {st : Stmt} {f : Addr} {fd : FuncData} {ds : List Value} {ps : List Str} (F : FunD K x qual st f fd ds)
    (h : ∀ (T : Addr) (kV doc pm : Value) (an : Option Addr) (cdv ct : Value) (us : List Value), us.length = ps.length →
      ∃ k, bindArgs (PySem.W.fnOf x qual (defArgs st) (defBody st) (defScope st) (.ref T) kV doc pm an cdv ct) ⟨us, []⟩ = seqItems? (.ref T) >>= k ∧ k (some ds.toArray) = pure (ps.zip us)) : Binds K fd ps [] := by
  obtain ⟨oc, od, kV, doc, pm, an, cdv, ct, osl, T, oT, dT, nT, sT, rfl, lk, hcd, lT⟩ := F.ex
  intro s us X hl
  rw [List.append_nil] at hl ⊢
  obtain ⟨k, h1, h2⟩ := h T kV doc pm an cdv ct us hl
  exact BindsTo.of_defaults (T := T) rfl (X _ _ lT) rfl h1 h2
theorem FunD.bindsD {x qual : Str} {st : Stmt} {f : Addr} {fd : FuncData} {ds : List Value} {ps : List Str} {n : Nat} (F : FunD K x qual st f fd ds) (hn : n + ds.length = ps.length)
    (h : ∀ (T : Addr) (kV doc pm : Value) (an : Option Addr) (cdv ct : Value) (us : List Value), us.length = n →
      ∃ k, bindArgs (PySem.W.fnOf x qual (defArgs st) (defBody st) (defScope st) (.ref T) kV doc pm an cdv ct) ⟨us, []⟩ = seqItems? (.ref T) >>= k ∧ k (some ds.toArray) = pure (ps.zip (us ++ ds))) : Binds K fd ps ds := by
  obtain ⟨oc, od, kV, doc, pm, an, cdv, ct, osl, T, oT, dT, nT, sT, rfl, lk, hcd, lT⟩ := F.ex
  intro s us X hl
  obtain ⟨k, h1, h2⟩ := h T kV doc pm an cdv ct us (by rw [List.length_append] at hl; omega)
  exact BindsTo.of_defaults (T := T) rfl (X _ _ lT) rfl h1 h2
theorem funD_mk {x qual : Str} {st : Stmt} {f T : Addr} {oc oT : Value} {od an dT : Option Addr} {nT : Nat} {osl sT : Array (Option Value)} {kV doc pm cdv ct : Value} {ds : List Value} (l : K.lookup f = some ⟨oc, od, .func (PySem.W.fnOf x qual (defArgs st) (defBody st) (defScope st) (.ref T) kV doc pm an cdv ct), osl⟩)
    (c : PySem.W.codeIn K cdv qual = true) (k : PySem.W.keepIn K (.ref f) = true) (lT : K.lookup T = some ⟨oT, dT, .seq ds.toArray nT, sT⟩) : FunD K x qual st f (PySem.W.fnOf x qual (defArgs st) (defBody st) (defScope st) (.ref T) kV doc pm an cdv ct) ds :=
  ⟨⟨oc, od, kV, doc, pm, an, cdv, ct, osl, T, oT, dT, nT, sT, rfl, l, c, lT⟩, k⟩
end
theorem vals_none : Vals [V.non] [Value.none] := .cons rfl .nil
end L2
set_option Elab.async false
set_option linter.all false
set_option maxRecDepth 100000
set_option maxHeartbeats 4000000
namespace Ck
open PySem L2
theorem lc_keys {d : Addr} {o : Obj} {kvs : List (Key × V)} {g : TG} {tt : TT} {te : TE} {vs : List Nat} {σ : St} {H1 : Hp} {D : Addr} {Qd : Hp → Prop} (Pv : Nat → Hp → Prop) (h0 : Pv 0 (upd H1 D (.lst []))) (hl : ∀ i H, i ≤ kvs.length → Pv i H → H d = some (.frz o (.dK kvs)))
    (hs : ∀ i k v H, kvs[i]? = some (k, v) → Pv i H → g (kV k) (wipe σ vs) H fun σ2 H2 => wipe σ2 vs = wipe σ vs ∧ tt σ2 H2 fun b H3 =>
      if b = true then te σ2 H3 fun y H4 => ∃ acc, H4 D = some (.lst acc) ∧ acc.length < sizeLine ∧ Pv (i + 1) (upd H4 D (.lst (acc ++ [y]))) else Pv (i + 1) H3) (hd : ∀ H, Pv kvs.length H → Qd H) :
    ∃ W : Nat → Nat → Hp → Prop, (∃ m, W 0 m (upd H1 D (.lst []))) ∧ ∀ i m H, W i m H →
      ((Itk d o kvs).stop i H ∧ Qd H) ∨ ((Itk d o kvs).go i H ∧ ∃ Nx : Hp → Prop, (∀ H', Nx H' → ∃ m', m' < m ∧ W (i + 1) m' H') ∧ ∀ x H', (Itk d o kvs).yld i H x H' → g x (wipe σ vs) H' fun σ2 H2 => wipe σ2 vs = wipe σ vs ∧ tt σ2 H2 fun b H3 =>
        if b = true then te σ2 H3 fun y H4 => ∃ acc, H4 D = some (.lst acc) ∧ acc.length < sizeLine ∧ Nx (upd H4 D (.lst (acc ++ [y]))) else Nx H3) := by
  refine ⟨fun i m H => m = kvs.length - i ∧ i ≤ kvs.length ∧ Pv i H, ⟨kvs.length, by simp, Nat.zero_le _, h0⟩, ?_⟩
  rintro i m H ⟨rfl, hi, p⟩
  have q := hl i H hi p
  by_cases hlt : i < kvs.length
  · refine .inr ⟨⟨q, hlt⟩, Pv (i + 1), fun H' p' => ⟨kvs.length - (i + 1), by omega, rfl, hlt, p'⟩, fun x H' y => ?_⟩
    obtain ⟨e, k, v, hk, rfl⟩ := y
    subst e
    exact hs i k v _ hk p
  · have e : i = kvs.length := by omega
    subst e
    exact .inl ⟨⟨q, Nat.le_refl _⟩, hd H p⟩
theorem cut_take {xs : List V} {m : Int} (h : 0 ≤ m) : cutV xs none (some m) = xs.take m.toNat := by
  unfold cutV
  have e1 : HT.sIx xs.length 0 none = 0 := rfl
  have e2 : HT.sIx xs.length xs.length (some m) = min m.toNat xs.length := by
    unfold HT.sIx
    dsimp only
    rw [if_neg (by omega)]
  rw [e1, e2, Nat.sub_zero, List.drop_zero]
  rw [← List.take_take, List.take_length]
abbrev CRow := Str × Str × Int × Int
def rowVs (r : CRow) : List V := [.str r.1, .str r.2.1, .int r.2.2.1, .int r.2.2.2]
structure RowsAt (H : Hp) (rs : List Addr) (rows : List CRow) : Prop where
  len : rs.length = rows.length
  at_ : ∀ (i : Nat) (r : Addr), rs[i]? = some r → ∃ u, rows[i]? = some u ∧ H r = some (.tup (rowVs u))
theorem RowsAt.mono {H H' : Hp} {rs : List Addr} {rows : List CRow} (u : RowsAt H rs rows) (t : Tups H H') : RowsAt H' rs rows :=
  ⟨u.len, fun i r h => let ⟨x, hx, e⟩ := u.at_ i r h; ⟨x, hx, t _ _ e⟩⟩
theorem RowsAt.nil (H : Hp) : RowsAt H [] [] := ⟨rfl, fun i r h => by simp at h⟩
theorem RowsAt.snoc {H : Hp} {rs : List Addr} {rows : List CRow} {r : Addr} {x : CRow} (u : RowsAt H rs rows) (h : H r = some (.tup (rowVs x))) : RowsAt H (rs ++ [r]) (rows ++ [x]) := by
  refine ⟨by rw [List.length_append, List.length_append, u.len]; rfl, fun i q hq => ?_⟩
  rw [List.getElem?_append] at hq ⊢
  by_cases hi : i < rs.length
  · rw [if_pos hi] at hq
    rw [if_pos (by rw [← u.len]; exact hi)]
    exact u.at_ i q hq
  · rw [if_neg hi] at hq
    rw [if_neg (by rw [← u.len]; exact hi), ← u.len]
    have e : i - rs.length = 0 := by
      have := (List.getElem?_eq_some_iff.mp hq).1
      simp at this; omega
    rw [e] at hq ⊢
    cases hq
    exact ⟨_, rfl, h⟩
theorem RowsAt.take {H : Hp} {rs : List Addr} {rows : List CRow} (u : RowsAt H rs rows) (n : Nat) : RowsAt H (rs.take n) (rows.take n) := by
  refine ⟨by rw [List.length_take, List.length_take, u.len], fun i q hq => ?_⟩
  rw [List.getElem?_take] at hq ⊢
  by_cases hi : i < n
  · rw [if_pos hi] at hq ⊢
    exact u.at_ i q hq
  · rw [if_neg hi] at hq
    cases hq
def lastFor (rows : List CRow) (t k : Str) (d : Int) : Option Int := rows.foldl (fun acc r => if r.1 = t ∧ r.2.1 = k ∧ r.2.2.1 = d then some r.2.2.2 else acc) none
theorem lastFor_snoc (rows : List CRow) (r : CRow) (t k : Str) (d : Int) : lastFor (rows ++ [r]) t k d = if r.1 = t ∧ r.2.1 = k ∧ r.2.2.1 = d then some r.2.2.2 else lastFor rows t k d := by
  unfold lastFor
  rw [List.foldl_append]
  rfl
structure DOf (kvs : List (Key × V)) (rows : List CRow) (t k : Str) : Prop where
  ks : ∀ p ∈ kvs, ∃ d : Int, p.1 = .inl d
  vs : ∀ d : Int, valV kvs (.inl d) = (lastFor rows t k d).map V.int
  len : kvs.length ≤ rows.length
theorem DOf.nil (t k : Str) : DOf [] [] t k := ⟨fun p h => by simp at h, fun d => rfl, Nat.le_refl _⟩
theorem putK_keys {kvs : List (Key × V)} {d : Int} {v : V} (h : ∀ p ∈ kvs, ∃ d : Int, p.1 = .inl d) : ∀ p ∈ putK kvs (.inl d) v, ∃ d : Int, p.1 = .inl d := by
  intro p hp
  unfold putK at hp
  split at hp
  · obtain ⟨q, hq, rfl⟩ := List.mem_map.mp hp
    split
    · exact h q hq
    · exact h q hq
  · rcases List.mem_append.mp hp with z | z
    · exact h p z
    · rw [List.mem_singleton.mp z]; exact ⟨d, rfl⟩
theorem DOf.put {kvs : List (Key × V)} {rows : List CRow} {t k : Str} (D : DOf kvs rows t k) (r : CRow) (h1 : r.1 = t) (h2 : r.2.1 = k) : DOf (putK kvs (.inl r.2.2.1) (.int r.2.2.2)) (rows ++ [r]) t k := by
  refine ⟨putK_keys D.ks, fun d => ?_, ?_⟩
  · rw [valV_put, lastFor_snoc]
    by_cases e : r.2.2.1 = d
    · rw [if_pos (by rw [e]), if_pos ⟨h1, h2, e⟩]; rfl
    · rw [if_neg (fun z => e (by injection z with z; exact z.symm)), if_neg (fun z => e z.2.2)]
      exact D.vs d
  · have := length_putK kvs (.inl r.2.2.1) (.int r.2.2.2)
    have := D.len
    rw [List.length_append]
    simp only [List.length_cons, List.length_nil]
    omega
theorem DOf.skip {kvs : List (Key × V)} {rows : List CRow} {t k : Str} (D : DOf kvs rows t k) (r : CRow) (h : ¬ (r.1 = t ∧ r.2.1 = k)) : DOf kvs (rows ++ [r]) t k := by
  refine ⟨D.ks, fun d => ?_, ?_⟩
  · rw [lastFor_snoc, if_neg (fun z => h ⟨z.1, z.2.1⟩)]
    exact D.vs d
  · have := D.len
    rw [List.length_append]; omega
def IsWorth (rows : List CRow) (t k : Str) (day r : Int) : Prop :=
  (∃ d, d ≤ day ∧ lastFor rows t k d = some r ∧ ∀ d', d' ≤ day → (lastFor rows t k d').isSome = true → d' ≤ d) ∨ (r = 0 ∧ ∀ d', d' ≤ day → lastFor rows t k d' = none)
theorem IsWorth.unique {rows : List CRow} {t k : Str} {day r r' : Int} (h : IsWorth rows t k day r) (h' : IsWorth rows t k day r') : r = r' := by
  rcases h with ⟨d, h1, h2, h3⟩ | ⟨rfl, h3⟩ <;> rcases h' with ⟨e, g1, g2, g3⟩ | ⟨rfl, g3⟩
  · have a := h3 e g1 (by rw [g2]; rfl)
    have b := g3 d h1 (by rw [h2]; rfl)
    have : d = e := by omega
    subst this
    rw [h2] at g2
    injection g2
  · rw [g3 d h1] at h2; cases h2
  · rw [h3 e g1] at g2; cases g2
  · rfl
def dayOf : Key × V → Int
  | (.inl d, _) => d
  | (.inr _, _) => 0
def daysTo (kvs : List (Key × V)) (day : Int) : List Int := (kvs.filter fun p => decide (dayOf p ≤ day)).map dayOf
theorem valV_mem {kvs : List (Key × V)} {k : Key} {v : V} (h : valV kvs k = some v) : ∃ p ∈ kvs, p.1 = k := by
  obtain ⟨p, hp, e⟩ := List.mem_map.mp (valV_in h)
  exact ⟨p, hp, e⟩
theorem mem_valV {kvs : List (Key × V)} {p : Key × V} (h : p ∈ kvs) : (valV kvs p.1).isSome = true := by
  rw [← valV_any]
  exact List.any_eq_true.mpr ⟨p, h, decide_eq_true rfl⟩
theorem DOf.days {kvs : List (Key × V)} {rows : List CRow} {t k : Str} (D : DOf kvs rows t k) (day d : Int) : d ∈ daysTo kvs day ↔ d ≤ day ∧ (lastFor rows t k d).isSome = true := by
  unfold daysTo
  rw [List.mem_map]
  constructor
  · rintro ⟨p, hp, rfl⟩
    rw [List.mem_filter, decide_eq_true_eq] at hp
    obtain ⟨e, he⟩ := D.ks p hp.1
    have z := mem_valV hp.1
    have hd : dayOf p = e := by
      obtain ⟨a, b⟩ := p
      cases he
      rfl
    rw [he, D.vs, Option.isSome_map] at z
    rw [hd] at hp ⊢
    exact ⟨hp.2, z⟩
  · rintro ⟨h1, h2⟩
    have z : (valV kvs (.inl d)).isSome = true := by rw [D.vs, Option.isSome_map]; exact h2
    obtain ⟨v, hv⟩ := Option.isSome_iff_exists.mp z
    obtain ⟨p, hp, e⟩ := valV_mem hv
    have hd : dayOf p = d := by
      obtain ⟨a, b⟩ := p
      cases e
      rfl
    exact ⟨p, List.mem_filter.mpr ⟨hp, decide_eq_true (by rw [hd]; exact h1)⟩, hd⟩
theorem DOf.worth {kvs : List (Key × V)} {rows : List CRow} {t k : Str} (D : DOf kvs rows t k) {day m : Int} (hm : m ∈ daysTo kvs day) (ht : ∀ y ∈ daysTo kvs day, y ≤ m) : ∃ r, valV kvs (.inl m) = some (.int r) ∧ IsWorth rows t k day r := by
  obtain ⟨h1, h2⟩ := (D.days day m).mp hm
  obtain ⟨r, hr⟩ := Option.isSome_iff_exists.mp h2
  refine ⟨r, by rw [D.vs, hr]; rfl, .inl ⟨m, h1, hr, fun d' l s => ht d' ((D.days day d').mpr ⟨l, s⟩)⟩⟩
theorem DOf.none {kvs : List (Key × V)} {rows : List CRow} {t k : Str} (D : DOf kvs rows t k) {day : Int} (h : daysTo kvs day = []) : IsWorth rows t k day 0 := by
  refine .inr ⟨rfl, fun d' l => ?_⟩
  cases e : lastFor rows t k d' with
  | none => rfl
  | some r =>
    have z := (D.days day d').mpr ⟨l, by rw [e]; rfl⟩
    rw [h] at z
    cases z
def CallsAt (C : Addr) (H : Hp) (x L : Addr) (rows : List CRow) : Prop := ∃ (dx : Addr) (rs : List Addr), H x = some (.ins C dx [("rows", .ref L)]) ∧ H L = some (.lst (rs.map V.ref)) ∧ RowsAt H rs rows
theorem CallsAt.same {C : Addr} {H H' : Hp} {x L : Addr} {rows : List CRow} (c : CallsAt C H x L rows) (s : Same H H') : CallsAt C H' x L rows := by
  obtain ⟨dx, rs, h1, h2, h3⟩ := c
  exact ⟨dx, rs, s _ _ h1, s _ _ h2, h3.mono (.same s)⟩
theorem CallsAt.keep {C : Addr} {H H' : Hp} {x L d : Addr} {rows : List CRow} {xs : List V} (c : CallsAt C H x L rows) (k : Keep d H H') (hd : H d = some (.lst xs)) (nL : L ≠ d) : CallsAt C H' x L rows := by
  obtain ⟨dx, rs, h1, h2, h3⟩ := c
  refine ⟨dx, rs, k _ _ h1 fun e => ?_, k _ _ h2 nL, h3.mono (k.tups hd)⟩
  rw [e, hd] at h1; cases h1
def Known (kn : V) (rows rows' : List CRow) : Prop := (kn = .non ∧ rows' = rows) ∨ ∃ m : Int, kn = .int m ∧ 0 ≤ m ∧ m ≤ rows.length ∧ rows' = rows.take m.toNat
end Ck
namespace Ck
open PySem L2
theorem shaped_pair {a b : Str} (ha : Okt a) (hb : Okt b) : SeqAt.shaped (.tuple [.str a, .str b]) = true := by
  unfold SeqAt.shaped
  rw [Bool.and_eq_true_iff]
  refine ⟨by simp [PyData.canLay0, PyData.canLayAll0, ha.ok, hb.ok], ?_⟩
  simp [PyData.depth, PyData.depthAll]
theorem shaped_three {a b : Str} {n : Int} (ha : Okt a) (hb : Okt b) : SeqAt.shaped (.tuple [.str a, .str b, .int n]) = true := by
  unfold SeqAt.shaped
  rw [Bool.and_eq_true_iff]
  refine ⟨by simp [PyData.canLay0, PyData.canLayAll0, ha.ok, hb.ok], ?_⟩
  simp [PyData.depth, PyData.depthAll]
theorem eqv_pair (a b c d : Str) : PyData.eqv (.tuple [.str a, .str b]) (.tuple [.str c, .str d]) = decide (a = c ∧ b = d) := by
  rw [Bool.eq_iff_iff, decide_eq_true_eq]
  simp [PyData.eqv, PyData.eqvAll]
theorem eqv_three (a b c d : Str) (n m : Int) : PyData.eqv (.tuple [.str a, .str b, .int n]) (.tuple [.str c, .str d, .int m]) = decide (a = c ∧ b = d ∧ n = m) := by
  rw [Bool.eq_iff_iff, decide_eq_true_eq]
  simp [PyData.eqv, PyData.eqvAll]
theorem dp_pair {K : PySem.W.Frag} {H : Hp} {p : Addr} {a b : Str} (h : H p = some (.tup [.str a, .str b])) : Dp K H (.ref p) (.tuple [.str a, .str b]) := .tup (SqT.of h) (.cons (.str a) (.cons (.str b) .nil))
theorem dp_three {K : PySem.W.Frag} {H : Hp} {p : Addr} {a b : Str} {n : Int} (h : H p = some (.tup [.str a, .str b, .int n])) : Dp K H (.ref p) (.tuple [.str a, .str b, .int n]) := .tup (SqT.of h) (.cons (.str a) (.cons (.str b) (.cons (.int n) .nil)))
end Ck
set_option Elab.async false
set_option linter.all false
set_option maxRecDepth 100000
set_option maxHeartbeats 4000000
namespace Ck
open PySem L2
theorem cr_maxK {X : Cx} {K : PySem.W.Frag} (e : X.K = K) (hc : X.calm = true) : CallR X (.builtin "max") (rMax K) := by subst e; exact cr_max hc
theorem at_last {xs : List V} {v : V} (h : xs.getLast? = some v) : atI xs (-1) = some v := by
  have ne : xs ≠ [] := by rintro rfl; cases h
  have l0 : 0 < xs.length := List.length_pos_iff.mpr ne
  unfold atI ixN
  rw [if_neg (by omega), if_pos (by omega)]
  show xs[((-1 : Int) + (xs.length : Int)).toNat]? = some v
  have e : ((-1 : Int) + (xs.length : Int)).toNat = xs.length - 1 := by omega
  rw [e, ← List.getLast?_eq_getElem?]
  exact h
theorem snoc_ind {α : Type} {P : List α → Prop} (h0 : P []) (h1 : ∀ l a, P l → P (l ++ [a])) : ∀ l, P l := fun l => by
  have z : ∀ r : List α, P r.reverse := by
    intro r
    induction r with
    | nil => exact h0
    | cons a r ih => rw [List.reverse_cons]; exact h1 _ _ ih
  have := z l.reverse
  rw [List.reverse_reverse] at this
  exact this
abbrev isTKD (t k : Str) (d : Int) (r : CRow) : Bool := decide (r.1 = t ∧ r.2.1 = k ∧ r.2.2.1 = d)
abbrev isTKto (t k : Str) (d : Int) (r : CRow) : Bool := decide (r.1 = t ∧ r.2.1 = k) && decide (r.2.2.1 ≤ d)
theorem lastFor_list (rows : List CRow) (t k : Str) (d : Int) : ((rows.filter (isTKD t k d)).map fun r => r.2.2.2).getLast? = lastFor rows t k d := by
  refine snoc_ind (P := fun rows => ((rows.filter (isTKD t k d)).map fun r => r.2.2.2).getLast? = lastFor rows t k d) rfl (fun l r ih => ?_) rows
  · rw [lastFor_snoc, List.filter_append, List.map_append]
    by_cases h : r.1 = t ∧ r.2.1 = k ∧ r.2.2.1 = d
    · rw [if_pos h]
      show (_ ++ List.map _ (List.filter _ [r])).getLast? = _
      rw [List.filter_cons, if_pos (decide_eq_true h)]
      simp
    · rw [if_neg h, ← ih]
      show (_ ++ List.map _ (List.filter _ [r])).getLast? = _
      rw [List.filter_cons, if_neg (by simpa using h)]
      simp
theorem lastFor_some {rows : List CRow} {t k : Str} {d : Int} : (lastFor rows t k d).isSome = true ↔ ∃ r ∈ rows, r.1 = t ∧ r.2.1 = k ∧ r.2.2.1 = d := by
  rw [← lastFor_list, List.getLast?_isSome]
  constructor
  · intro h
    obtain ⟨x, hx⟩ := List.exists_mem_of_ne_nil _ h
    obtain ⟨r, hr, _⟩ := List.mem_map.mp hx
    obtain ⟨h1, h2⟩ := List.mem_filter.mp hr
    exact ⟨r, h1, of_decide_eq_true h2⟩
  · rintro ⟨r, hr, h⟩ e
    have : r.2.2.2 ∈ (rows.filter (isTKD t k d)).map fun r => r.2.2.2 := List.mem_map.mpr ⟨r, List.mem_filter.mpr ⟨hr, decide_eq_true h⟩, rfl⟩
    rw [e] at this
    cases this
abbrev daysIn (rows : List CRow) (t k : Str) (day : Int) : List Int := (rows.filter (isTKto t k day)).map fun r => r.2.2.1
theorem mem_daysIn {rows : List CRow} {t k : Str} {day d : Int} : d ∈ daysIn rows t k day ↔ d ≤ day ∧ (lastFor rows t k d).isSome = true := by
  rw [lastFor_some, List.mem_map]
  constructor
  · rintro ⟨r, hr, rfl⟩
    obtain ⟨h1, h2⟩ := List.mem_filter.mp hr
    rw [Bool.and_eq_true, decide_eq_true_eq, decide_eq_true_eq] at h2
    exact ⟨h2.2, r, h1, h2.1.1, h2.1.2, rfl⟩
  · rintro ⟨hd, r, hr, h1, h2, rfl⟩
    refine ⟨r, List.mem_filter.mpr ⟨hr, ?_⟩, rfl⟩
    rw [Bool.and_eq_true, decide_eq_true_eq, decide_eq_true_eq]
    exact ⟨⟨h1, h2⟩, hd⟩
theorem due_none {rows : List CRow} {t k : Str} {day : Int} (h : daysIn rows t k day = []) : IsWorth rows t k day 0 := by
  refine .inr ⟨rfl, fun d' l => ?_⟩
  cases e : lastFor rows t k d' with
  | none => rfl
  | some r =>
    have : d' ∈ daysIn rows t k day := mem_daysIn.mpr ⟨l, by rw [e]; rfl⟩
    rw [h] at this
    cases this
theorem due_some {rows : List CRow} {t k : Str} {day m : Int} (hm : m ∈ daysIn rows t k day) (ht : ∀ y ∈ daysIn rows t k day, y ≤ m) :
    ∃ r, ((rows.filter (isTKD t k m)).map fun r => r.2.2.2).getLast? = some r ∧ IsWorth rows t k day r := by
  obtain ⟨h1, h2⟩ := mem_daysIn.mp hm
  obtain ⟨r, hr⟩ := Option.isSome_iff_exists.mp h2
  exact ⟨r, by rw [lastFor_list]; exact hr, .inl ⟨m, h1, hr, fun d' l s => ht d' (mem_daysIn.mpr ⟨l, s⟩)⟩⟩
theorem filtm_yes {α : Type} {ns : List α} {p : α → Bool} {f : α → V} {i : Nat} {n : α} (h : ns[i]? = some n) (hp : p n = true) : ((ns.take (i + 1)).filter p).map f = ((ns.take i).filter p).map f ++ [f n] := by
  rw [List.take_succ, h, List.filter_append, List.map_append]
  show _ ++ List.map f (List.filter p [n]) = _
  rw [List.filter_cons, if_pos hp]; rfl
theorem filtm_no {α : Type} {ns : List α} {p : α → Bool} {f : α → V} {i : Nat} {n : α} (h : ns[i]? = some n) (hp : ¬ p n = true) : ((ns.take (i + 1)).filter p).map f = ((ns.take i).filter p).map f := by
  rw [List.take_succ, h, List.filter_append, List.map_append]
  show _ ++ List.map f (List.filter p [n]) = _
  rw [List.filter_cons, if_neg hp]; simp
theorem filtm_len {α : Type} {ns : List α} {p : α → Bool} {f : α → V} {i : Nat} : (((ns.take i).filter p).map f).length ≤ ns.length := by
  rw [List.length_map]
  have := List.length_filter_le p (ns.take i)
  have := List.length_take_le' i ns
  omega
theorem mapt_yes {α : Type} {ns : List α} {f : α → V} {i : Nat} {n : α} (h : ns[i]? = some n) : (ns.take (i + 1)).map f = (ns.take i).map f ++ [f n] := by
  rw [List.take_succ, h, List.map_append]; rfl
theorem mapt_len {α : Type} {ns : List α} {f : α → V} {i : Nat} : ((ns.take i).map f).length ≤ ns.length := by
  rw [List.length_map]
  exact List.length_take_le' i ns
theorem int_at {ns : List Int} {i : Nat} {x : V} (h : (ns.map V.int)[i]? = some x) : ∃ n, ns[i]? = some n ∧ x = .int n := by
  rw [List.getElem?_map] at h
  cases e : ns[i]? with
  | none => rw [e] at h; cases h
  | some r => rw [e] at h; cases h; exact ⟨r, rfl, rfl⟩
theorem new_at {H : Hp} {p : Addr} {o : HO} (h : H p = none) : (upd H p o) p = some o := upd_same
theorem made_same {H H' : Hp} {x dx : Addr} {o1 o2 : HO} (hx : H x = none) (hdx : H dx = none) (k : Keep x (upd (upd H dx o1) x o2) H') : Same H H' := fun b o e => by
  have nx := ne_of_none e hx
  refine k b o ?_ nx
  rw [upd_ne nx, upd_ne (ne_of_none e hdx)]
  exact e
theorem cut_row2 (r : CRow) : cutV (rowVs r) none (some 2) = [.str r.1, .str r.2.1] := by rw [cut_take (by decide)]; rfl
theorem cut_row3 (r : CRow) : cutV (rowVs r) none (some 3) = [.str r.1, .str r.2.1, .int r.2.2.1] := by rw [cut_take (by decide)]; rfl
end Ck
set_option Elab.async false
set_option linter.all false
set_option maxRecDepth 100000
set_option maxHeartbeats 4000000
namespace L2
open PySem PySem.Spec PyProof.Rows Builtin
def KB (K : PySem.W.Frag) (fd : FuncData) (ps ks : List Str) (n : Nat) : Prop := ∀ (s : Shared) (us ws : List Value), K.In s.heap → us.length = n → ws.length = ks.length → BindsTo s fd ⟨us, ks.zip ws⟩ (ps.zip (us ++ ws))
section
variable {P : Program} {w : World} {K : PySem.W.Frag} {mg : Str → Option Value} {base : Heap}
theorem FunD.kb {x qual : Str} {st : Stmt} {f : Addr} {fd : FuncData} {ds : List Value} {ps ks : List Str} {n : Nat} (F : FunD K x qual st f fd ds)
    (h : ∀ (T : Addr) (kV doc pm : Value) (an : Option Addr) (cdv ct : Value) (us ws : List Value), us.length = n → ws.length = ks.length →
      ∃ k, bindArgs (PySem.W.fnOf x qual (defArgs st) (defBody st) (defScope st) (.ref T) kV doc pm an cdv ct) ⟨us, ks.zip ws⟩ = seqItems? (.ref T) >>= k ∧ k (some ds.toArray) = pure (ps.zip (us ++ ws))) : KB K fd ps ks n := by
  obtain ⟨oc, od, kV, doc, pm, an, cdv, ct, osl, T, oT, dT, nT, sT, rfl, lk, hcd, lT⟩ := F.ex
  intro s us ws X h1 h2
  obtain ⟨k, e1, e2⟩ := h T kV doc pm an cdv ct us ws h1 h2
  exact BindsTo.of_defaults (T := T) rfl (X _ _ lT) rfl e1 e2
end
section
variable {X : Cx} {CX : CXT} {k n l : Nat} {f C : Addr} {fd : FuncData} {ps ks : List Str} {sp : Sp} {E : XK} {x m : Str} {p pos apos kpos : Pos} {e o : Expr} {es : List Expr} {kws : List Keyword} {te ta : TE} {t tk : TA} {nm : Option Str}
structure QK (X : Cx) (kws : List Keyword) (t : TA) : Prop where
  h : PK X kws t
end
end L2
namespace Ck
open PySem L2
def rowD (r : CRow) : PyData := .tuple [.str r.1, .str r.2.1, .int r.2.2.1, .int r.2.2.2]
theorem dp_rowsN {K : PySem.W.Frag} {H : Hp} : ∀ (rs : List Addr) (rows : List CRow), RowsAt H rs rows → DpAll K H (rs.map V.ref) (rows.map rowD)
  | [], [], _ => .nil
  | [], _ :: _, h => by have := h.len; simp at this
  | _ :: _, [], h => by have := h.len; simp at this
  | r :: rs, u :: rows, h => by
    obtain ⟨v, hv, e⟩ := h.at_ 0 r rfl
    obtain rfl : u = v := by simpa using hv
    refine .cons (.tup (SqT.of e) (.cons (.str _) (.cons (.str _) (.cons (.int _) (.cons (.int _) .nil))))) (dp_rowsN rs rows ⟨by have := h.len; simpa using this, fun i q hq => ?_⟩)
    obtain ⟨v, hv, e⟩ := h.at_ (i + 1) q (by simpa using hq)
    exact ⟨v, by simpa using hv, e⟩
theorem lay_rows : ∀ rows : List CRow, (∀ r ∈ rows, Okt r.1 ∧ Okt r.2.1) → PyData.canLayAll0 (rows.map rowD) = true
  | [], _ => rfl
  | u :: r, h => by
    have hu := h u List.mem_cons_self
    show PyData.canLayAll0 (rowD u :: r.map rowD) = true
    simp [PyData.canLayAll0, PyData.canLay0, rowD, lay_rows r fun x hx => h x (List.mem_cons_of_mem _ hx), hu.1.ok, hu.2.ok]
theorem depth_rows : ∀ rows : List CRow, PyData.depthAll (rows.map rowD) ≤ 2
  | [] => by simp [PyData.depthAll]
  | u :: r => by
    have := depth_rows r
    show PyData.depthAll (rowD u :: r.map rowD) ≤ 2
    simp only [PyData.depthAll, rowD, PyData.depth]
    omega
theorem shaped_rows (rows : List CRow) (h : ∀ r ∈ rows, Okt r.1 ∧ Okt r.2.1) : SeqAt.shaped (.list (rows.map rowD)) = true := by
  unfold SeqAt.shaped
  rw [Bool.and_eq_true_iff]
  refine ⟨by simp [PyData.canLay0, lay_rows rows h], ?_⟩
  have := depth_rows rows
  simp [PyData.depth]
  omega
end Ck
set_option Elab.async false
set_option linter.all false
set_option maxRecDepth 100000
set_option maxHeartbeats 4000000
namespace HT
open PySem PySem.Spec PyProof.Rows
end HT
namespace L2
open PySem PySem.Spec PyProof.Rows
end L2
set_option Elab.async false
set_option linter.all false
set_option maxRecDepth 100000
set_option maxHeartbeats 4000000
namespace L2
open PySem PySem.Spec PyProof.Rows
theorem rep_size (c : Array Nat) : ∀ (n : Nat) (acc : Array Nat), ((List.replicate n c).foldl (· ++ ·) acc).size = acc.size + n * c.size
  | 0, acc => by simp
  | n + 1, acc => by
    rw [List.replicate_succ, List.foldl_cons, rep_size c n (acc ++ c), Array.size_append, Nat.succ_mul]
    omega
theorem op_rep_strN {X : Cx} : OpR X (binaryOp .Mult) (fun x y H Q => ∃ (z : Str) (k : Nat), x = .str z ∧ y = .int k ∧ 2 ≤ k ∧ k ≤ 100 ∧ 0 < z.length ∧ z.length ≤ 100 ∧ ∀ z' : Str, z'.length = k * z.length → Q (.str z') H) := by
  intro pins s σ H x y v u Q I rx ry h
  obtain ⟨z, k, rfl, rfl, k2, k1, z0, z1, q⟩ := h
  obtain ⟨t, rfl⟩ := rx
  obtain ⟨t', rfl⟩ := ry
  have hl : z.length * k ≤ 100 * 100 := Nat.mul_le_mul z1 k1
  have e1 : (((k : Int) == 1) || z.length == 0) = false := by
    rw [Bool.or_eq_false_iff]
    exact ⟨by rw [beq_eq_false_iff_ne]; omega, by rw [beq_eq_false_iff_ne]; omega⟩
  refine P.mul_str (by rw [decide_eq_false (by omega), decide_eq_false (by omega)]; rfl) (fun _ _ => ?_) (fun _ _ => ?_) ?_
  · have : (100 : Int) ≤ (2 ^ 63 - 1) / (k : Int) := by
      rw [Int.le_ediv_iff_mul_le (by omega)]
      omega
    omega
  · rw [Int.toNat_natCast]
    show decide (z.length * k > sizeLine) = false
    first | (rw [decide_eq_false]; rw [sizeLine_eq]; omega) | (simp only [decide_eq_false_iff_not]; rw [sizeLine_eq]; omega) | (rw [sizeLine_eq]; simp; omega)
  · rw [if_neg (by omega), if_neg (by rw [e1]; decide)]
    have es : Str.length ⟨(List.replicate (k : Int).toNat z.cps).foldl (· ++ ·) #[]⟩ = k * z.length := by
      show ((List.replicate (k : Int).toNat z.cps).foldl (· ++ ·) #[]).size = _
      rw [rep_size, Int.toNat_natCast]
      show 0 + k * z.cps.size = k * z.cps.size
      omega
    refine ⟨?_, .str _, H, I.tok _, ⟨_, rfl⟩, q _ es⟩
    rw [es, sizeLine_eq, Nat.mul_comm]
    omega
end L2
set_option Elab.async false
set_option linter.all false
set_option maxRecDepth 100000
set_option maxHeartbeats 4000000
namespace PySem
abbrev Ris (l : List Nat) : Prop := l.Pairwise (· < ·)
theorem belowGo_spec (xs : Array Nat) (j : Nat) (hR : Ris xs.toList) : ∀ (fuel lo hi : Nat), lo ≤ hi → hi ≤ xs.size → hi - lo ≤ fuel →
    (∀ i v, i < lo → xs.toList[i]? = some v → v < j) → (∀ i v, hi ≤ i → xs.toList[i]? = some v → j ≤ v) →
    ∃ r, SetTable.below.go xs j fuel lo hi = r ∧ r ≤ xs.size ∧ (∀ i v, i < r → xs.toList[i]? = some v → v < j) ∧ (∀ i v, r ≤ i → xs.toList[i]? = some v → j ≤ v) := by
  intro fuel
  induction fuel with
  | zero =>
    intro lo hi h1 h2 h3 a b
    have e : lo = hi := by omega
    subst e
    exact ⟨lo, rfl, h2, a, b⟩
  | succ n ih =>
    intro lo hi h1 h2 h3 a b
    unfold SetTable.below.go
    by_cases hl : lo < hi
    · rw [if_pos hl]
      dsimp only
      have hm : (lo + hi) / 2 < xs.size := by omega
      have hm1 : (lo + hi) / 2 < hi := by omega
      have hm0 : lo ≤ (lo + hi) / 2 := by omega
      generalize (lo + hi) / 2 = m at hm hm1 hm0 ⊢
      have hg : xs.toList[m]? = some xs[m] := by rw [Array.getElem?_toList]; exact Array.getElem?_eq_getElem hm
      have hgd : xs.getD m j = xs[m] := by simp [Array.getD, hm]
      rw [hgd]
      have mono : ∀ i k v u, i < k → xs.toList[i]? = some v → xs.toList[k]? = some u → v < u := fun i k v u hik hv hu => by
        obtain ⟨hi', ev⟩ := List.getElem?_eq_some_iff.mp hv
        obtain ⟨hk', eu⟩ := List.getElem?_eq_some_iff.mp hu
        rw [← ev, ← eu]
        exact List.pairwise_iff_getElem.mp hR i k hi' hk' hik
      by_cases hc : xs[m] < j
      · rw [if_pos hc]
        refine ih (m + 1) hi (by omega) h2 (by omega) (fun i v hi' hv => ?_) b
        by_cases e : i = m
        · subst e; rw [hg] at hv; cases hv; exact hc
        · exact Nat.lt_trans (mono i m v _ (by omega) hv hg) hc
      · rw [if_neg hc]
        refine ih lo m hm0 (by omega) (by omega) a (fun i v hi' hv => ?_)
        by_cases e : i = m
        · subst e; rw [hg] at hv; cases hv; omega
        · have := mono m i _ v (by omega) hg hv
          omega
    · rw [if_neg hl]
      have e : lo = hi := by omega
      subst e
      exact ⟨lo, rfl, h2, a, b⟩
theorem below_spec (xs : Array Nat) (j : Nat) (hR : Ris xs.toList) :
    ∃ r, SetTable.below xs j = r ∧ r ≤ xs.size ∧ (∀ i v, i < r → xs.toList[i]? = some v → v < j) ∧ (∀ i v, r ≤ i → xs.toList[i]? = some v → j ≤ v) := by
  refine belowGo_spec xs j hR xs.size 0 xs.size (Nat.zero_le _) (Nat.le_refl _) (by omega) (fun i v h => absurd h (Nat.not_lt_zero _)) (fun i v h hv => ?_)
  have := (List.getElem?_eq_some_iff.mp hv).1
  rw [Array.length_toList] at this
  omega
theorem ris_get {l : List Nat} (h : Ris l) {i k v u : Nat} (hik : i < k) (hv : l[i]? = some v) (hu : l[k]? = some u) : v < u := by
  obtain ⟨hi', ev⟩ := List.getElem?_eq_some_iff.mp hv
  obtain ⟨hk', eu⟩ := List.getElem?_eq_some_iff.mp hu
  rw [← ev, ← eu]
  exact List.pairwise_iff_getElem.mp h i k hi' hk' hik
theorem below_at (xs : Array Nat) (hR : Ris xs.toList) (i : Nat) (hi : i ≤ xs.size) (j : Nat) (hj : (i = 0 ∧ j = 0) ∨ ∃ k v, i = k + 1 ∧ xs.toList[k]? = some v ∧ j = v + 1) : SetTable.below xs j = i := by
  obtain ⟨r, e, hr, a, b⟩ := below_spec xs j hR
  rw [e]
  rcases hj with ⟨rfl, rfl⟩ | ⟨k, v, rfl, hv, rfl⟩
  · rcases Nat.eq_zero_or_pos r with z | z
    · exact z
    · have hl : 0 < xs.toList.length := by rw [Array.length_toList]; omega
      have := a 0 _ z (List.getElem?_eq_getElem hl)
      omega
  · rcases Nat.lt_trichotomy r (k + 1) with z | z | z
    · have hl : r < xs.toList.length := by rw [Array.length_toList]; omega
      have h1 := b r _ (Nat.le_refl _) (List.getElem?_eq_getElem hl)
      by_cases e' : r = k
      · subst e'; rw [List.getElem?_eq_getElem hl] at hv; cases hv; omega
      · have := ris_get hR (show r < k by omega) (List.getElem?_eq_getElem hl) hv
        omega
    · exact z
    · have hl : k + 1 < xs.toList.length := by rw [Array.length_toList]; omega
      have h1 := a (k + 1) _ z (List.getElem?_eq_getElem hl)
      have := ris_get hR (Nat.lt_succ_self k) hv (List.getElem?_eq_getElem hl)
      omega
theorem slot_empty_not {t : SetTable} {j : Nat} (hR : Ris t.place.toList) (h : t.slot j = .empty) : j ∉ t.place.toList := by
  intro hm
  obtain ⟨r, e, hr, a, b⟩ := below_spec t.place j hR
  obtain ⟨i, hi, ev⟩ := List.getElem_of_mem hm
  have hv : t.place.toList[i]? = some j := by rw [List.getElem?_eq_getElem hi, ev]
  have hri : r ≤ i := by
    rcases Nat.lt_or_ge i r with z | z
    · exact absurd (a i j z hv) (Nat.lt_irrefl _)
    · exact z
  have hl : r < t.place.toList.length := by omega
  have h1 := b r _ (Nat.le_refl _) (List.getElem?_eq_getElem hl)
  have h2 : t.place.toList[r] = j := by
    by_cases e' : r = i
    · subst e'; exact ev
    · have := ris_get hR (show r < i by omega) (List.getElem?_eq_getElem hl) hv
      omega
  unfold SetTable.slot at h
  rw [e] at h
  have h3 : t.place[r]? = some j := by rw [← Array.getElem?_toList, List.getElem?_eq_getElem hl, h2]
  simp [h3] at h
theorem insertAt_toList {α : Type} (xs : Array α) (p : Nat) (x : α) : (SetTable.insertAt xs p x).toList = xs.toList.take p ++ x :: xs.toList.drop p := by
  unfold SetTable.insertAt
  simp [Array.toList_append, Array.toList_push, Array.toList_extract, List.extract]
  exact List.take_of_length_le (by simp)
theorem ris_insert {xs : Array Nat} {j : Nat} (hR : Ris xs.toList) (hj : j ∉ xs.toList) : Ris (SetTable.insertAt xs (SetTable.below xs j) j).toList := by
  obtain ⟨r, e, hr, a, b⟩ := below_spec xs j hR
  rw [e, insertAt_toList]
  have h1 : ∀ v ∈ xs.toList.take r, v < j := fun v hv => by
    obtain ⟨i, hi, ev⟩ := List.getElem_of_mem hv
    rw [List.length_take] at hi
    rw [List.getElem_take] at ev
    exact a i v (by omega) (by rw [List.getElem?_eq_getElem (by omega), ev])
  have h2 : ∀ v ∈ xs.toList.drop r, j < v := fun v hv => by
    obtain ⟨i, hi, ev⟩ := List.getElem_of_mem hv
    rw [List.length_drop] at hi
    rw [List.getElem_drop] at ev
    have z := b (r + i) v (by omega) (by rw [List.getElem?_eq_getElem (by omega), ev])
    have n : j ≠ v := fun q => hj (by rw [q]; exact List.mem_of_mem_drop hv)
    omega
  refine List.pairwise_append.mpr ⟨hR.sublist (List.take_sublist _ _), List.pairwise_cons.mpr ⟨h2, hR.sublist (List.drop_sublist _ _)⟩, fun v hv u hu => ?_⟩
  rcases List.mem_cons.mp hu with rfl | hu
  · exact h1 v hv
  · exact Nat.lt_trans (h1 v hv) (h2 u hu)
structure TOk (L : Bool) (t : SetTable) : Prop where
  led : t.led = L
  dum : t.dummies = #[]
  ris : Ris t.place.toList
theorem ris_range (n : Nat) : Ris (Array.range n).toList := by
  rw [Array.toList_range]
  exact List.pairwise_lt_range
theorem TOk.standIn {L : Bool} {t : SetTable} (h : TOk L t) (n : Nat) : TOk L (t.standIn n) := ⟨h.led, rfl, ris_range n⟩
theorem TOk.fresh (f m : Nat) (L : Bool) : TOk L (.fresh f m L) := ⟨rfl, rfl, List.Pairwise.nil⟩
theorem slot_not_dummy {t : SetTable} (hd : t.dummies = #[]) (j : Nat) : t.slot j ≠ .dummy := by
  unfold SetTable.slot
  dsimp only
  split
  · intro z; cases z
  · rw [hd]
    intro z
    have e : SetTable.has #[] j = false := by unfold SetTable.has; simp
    rw [e] at z
    cases z
theorem probe_free {t : SetTable} (hd : t.dummies = #[]) (f : Nat → Int) (h : Int) : ∀ (fuel : Nat) (p : SetTable.Probe), p.dummy = none → ∀ j d, SetTable.probe.go t f h fuel p = some (.empty j d) → d = none ∧ t.slot j = .empty := by
  intro fuel
  induction fuel with
  | zero => intro p _ j d e; unfold SetTable.probe.go at e; cases e
  | succ n ih =>
    intro p hp j d e
    have adv : (t.advance p).dummy = none := by
      unfold SetTable.advance
      split
      · exact hp
      · exact hp
    unfold SetTable.probe.go at e
    split at e
    · next he =>
      cases e
      exact ⟨hp, he⟩
    · next he => exact absurd he (slot_not_dummy hd _)
    · next i he =>
      split at e
      · cases e
      · exact ih _ adv j d e
theorem freeSlot_not {L : Bool} {t : SetTable} (T : TOk L t) {h : Int} {j : Nat} {b : Bool} (e : t.freeSlot h = some (j, b)) : j ∉ t.place.toList := by
  unfold SetTable.freeSlot at e
  split at e
  · next j' d he =>
    obtain ⟨rfl, hs⟩ := probe_free T.dum _ h _ _ rfl j' d he
    cases e
    exact slot_empty_not T.ris hs
  · cases e
theorem TOk.put {L : Bool} {t : SetTable} (T : TOk L t) {j : Nat} (hj : j ∉ t.place.toList) : TOk L (t.put j).1 := by
  refine ⟨T.led, ?_, ris_insert T.ris hj⟩
  unfold SetTable.put
  dsimp only
  rw [T.dum]
  have e : SetTable.has #[] j = false := by unfold SetTable.has; simp
  rw [e]
  rfl
theorem TOk.orStandIn {L : Bool} {t : SetTable} (T : TOk L t) (n : Nat) : TOk L (t.orStandIn n) := by
  unfold SetTable.orStandIn
  split
  · exact T
  · exact T.standIn n
theorem TOk.layNew {L : Bool} {t : SetTable} (T : TOk L t) (es : Array (Int × Value)) (h : Int) (x : Value) : TOk L (layNew t es h x).2.1 := by
  unfold PySem.layNew
  split
  · next j b e => exact (T.put (freeSlot_not T e)).orStandIn _
  · exact T.standIn _
theorem ris_filterMap {α : Type} (f : Nat → Option α) (n : Nat) : Ris (((List.range n).filterMap fun j => (f j).map (j, ·)).map (·.1)) := by
  have e : (((List.range n).filterMap fun j => (f j).map (j, ·)).map (·.1)) = (List.range n).filter fun j => (f j).isSome := by
    induction List.range n with
    | nil => rfl
    | cons a l ih =>
      rw [List.filterMap_cons, List.filter_cons]
      cases ha : f a with
      | none => simpa [ha] using ih
      | some v => simpa [ha] using ih
  rw [e]
  exact List.pairwise_lt_range.sublist List.filter_sublist
theorem TOk.relayAll {L : Bool} {t : SetTable} (T : TOk L t) (es : Array (Int × Value)) (n : Nat) : TOk L (relayAll t es n).2.1 := by
  unfold PySem.relayAll
  split
  · next t' order e =>
    have T' : TOk L t' := by
      unfold SetTable.relaid SetTable.laid at e
      cases ho : SetTable.layClean (SetTable.sizeAbove n - 1) (es.map (·.1)) with
      | none => rw [ho] at e; cases e
      | some owner =>
        rw [ho] at e
        cases e
        exact ⟨T.led, rfl, ris_filterMap _ _⟩
    dsimp only
    split
    · exact T'
    · exact T.standIn _
  · exact T.standIn _
theorem TOk.plainOff {L : Bool} {t : SetTable} (T : TOk L t) : TOk L { t with plain := false } := ⟨T.led, T.dum, T.ris⟩
end PySem
set_option Elab.async false
set_option linter.all false
set_option maxRecDepth 100000
set_option maxHeartbeats 4000000
namespace PySem
open PyProof.Rows (SetOf_congr setObjOf_fresh)
def vInt : Value → Int
  | .int n _ => n
  | _ => 0
section
variable {prog : Program} {w : World} {A : Around} {E : Value → Shared → Prop} {s : Shared}
abbrev ledOf (w : World) : Bool := !(w.params.followText "set-order")
structure SetI (prog : Program) (w : World) (h : Heap) (a : Addr) (o : Obj) (es : Array (Int × Value)) (ep : Nat) (t : SetTable) (ns : List Int) : Prop where
  ho : h.get? a = some o
  hx : o.ExactSet
  hd : o.data = .set es ep t
  el : ElemsOf (intKind prog w) es.toList
  pm : (es.toList.map fun e => vInt e.2).Perm ns
  sz : es.size < scanBound
  ft : t.fits es.size = true
  tk : TOk (ledOf w) t
def HasSet (prog : Program) (w : World) (h : Heap) (a : Addr) (ns : List Int) : Prop := ∃ o es ep t, SetI prog w h a o es ep t ns
theorem HasSet.at {h h' : Heap} {a : Addr} {ns : List Int} (x : HasSet prog w h a ns) (k : ∀ o, h.get? a = some o → h'.get? a = some o) : HasSet prog w h' a ns :=
  let ⟨o, es, ep, t, z⟩ := x; ⟨o, es, ep, t, k _ z.ho, z.hx, z.hd, z.el, z.pm, z.sz, z.ft, z.tk⟩
theorem is_int {k : Int} {v : Value} : (intKind prog w).is k v = true ↔ ∃ t, v = .int k t :=
  ⟨fun h => Value.isInt_shape h, fun ⟨t, e⟩ => by subst e; exact intKind_is prog w k t⟩
theorem el_mem {es : List (Int × Value)} (el : ElemsOf (intKind prog w) es) (k : Int) : (∃ e ∈ es, (intKind prog w).is k e.2 = true) ↔ k ∈ es.map fun e => vInt e.2 := by
  constructor
  · rintro ⟨e, he, h⟩
    obtain ⟨t, et⟩ := is_int.mp h
    exact List.mem_map.mpr ⟨e, he, by rw [et]; rfl⟩
  · intro h
    obtain ⟨e, he, rfl⟩ := List.mem_map.mp h
    obtain ⟨⟨k, hk, _⟩, _⟩ := el e he
    obtain ⟨t, et⟩ := is_int.mp hk
    exact ⟨e, he, by rw [et]; exact intKind_is prog w k t⟩
theorem store_SetI {h : Heap} {a : Addr} {o : Obj} {es : Array (Int × Value)} {ep : Nat} {t : SetTable} (ho : h.get? a = some o) (hx : o.ExactSet) (hd : o.data = .set es ep t) {es' : Array (Int × Value)} {t' : SetTable} {ns : List Int}
    (el : ElemsOf (intKind prog w) es'.toList) (pm : (es'.toList.map fun e => vInt e.2).Perm ns) (sz : es'.size < scanBound) (ft : t'.fits es'.size = true) (tk : TOk (ledOf w) t') :
    SetI prog w (h.update a (Obj.putSet es' t')) a { o with data := .set es' (ep + 1) t' } es' (ep + 1) t' ns := by
  have hg := Heap.get?_update_self (Obj.putSet es' t') ho (by rw [putSet_of es' t' hd]; rfl)
  rw [putSet_of es' t' hd] at hg
  exact ⟨hg, hx, rfl, el, pm, sz, ft, tk⟩
theorem add_tail {g : Bool → Sem Unit} (hg : ∀ (b : Bool) (s₁ : Shared) (Q' : Unit → Shared → Prop), Q' () s₁ → wpAny (model prog w) A (g b) Q' E s₁)
    {a : Addr} {o : Obj} {es : Array (Int × Value)} {ep : Nat} {t : SetTable} (ho : s.heap.get? a = some o) (hx : o.ExactSet) (hd : o.data = .set es ep t) {es1 : Array (Int × Value)} {t2 : SetTable} {ns : List Int}
    (el : ElemsOf (intKind prog w) es1.toList) (pm : (es1.toList.map fun e => vInt e.2).Perm ns) (sz : es1.size < scanBound) (ft : t2.fits es1.size = true) (tk : TOk (ledOf w) t2) {dm : Bool} {R : Option Bool → Shared → Prop}
    (h : ∀ h', Heap.SameBut a s.heap h' → HasSet prog w h' a ns → R (some true) { s with heap := h' }) :
    wpAny (model prog w) A (storeSet a es1 t2 >>= fun _ =>
        if (!dm && t2.tooFull) = true then g (relayAll t2 es1 (SetTable.grown es1.size)).2.2 >>= fun _ =>
            storeSet a (relayAll t2 es1 (SetTable.grown es1.size)).1 (relayAll t2 es1 (SetTable.grown es1.size)).2.1 >>= fun _ => pure (some true)
          else pure (some true)) R E s := by
  have z1 := store_SetI (prog := prog) (w := w) ho hx hd el pm sz ft tk
  have b1 := Heap.SameBut.update s.heap a (Obj.putSet es1 t2)
  refine wpAny_bind (wpAny_storeSet_of ho hd ?_ (fits_of_scanBound sz))
  by_cases c : (!dm && t2.tooFull) = true
  · rw [if_pos c]
    have hp := relayAll_perm t2 es1 (SetTable.grown es1.size)
    have hf := relayAll_fits t2 es1 (SetTable.grown es1.size)
    have ht := tk.relayAll es1 (SetTable.grown es1.size)
    revert hp hf ht
    generalize relayAll t2 es1 (SetTable.grown es1.size) = Rl
    obtain ⟨es2, t3, g3⟩ := Rl
    intro hp hf ht
    dsimp only at hp hf ht ⊢
    have e2 : es2.size = es1.size := by rw [← Array.length_toList, hp.length_eq, Array.length_toList]
    have sz2 : es2.size < scanBound := by rw [e2]; exact sz
    refine wpAny_bind (hg _ _ _ (wpAny_bind (wpAny_storeSet_of z1.ho rfl ?_ (fits_of_scanBound sz2))))
    have z2 := store_SetI (prog := prog) (w := w) (ns := ns) z1.ho hx rfl (el.perm hp) ((hp.map _).trans pm) sz2 hf ht
    exact wpAny_pure (h _ (b1.trans (Heap.SameBut.update _ a _)) ⟨_, _, _, _, z2⟩)
  · rw [if_neg c]
    exact wpAny_pure (h _ b1 ⟨_, _, _, _, z1⟩)
theorem add_hashed {a : Addr} {ns : List Int} {k : Int} {x : Value} {Q : Bool → Shared → Prop} (hk : (intKind prog w).is k x = true) (sc : x.scannable = true) (hS : HasSet prog w s.heap a ns) (room : ns.length + 1 < scanBound)
    (h : ∀ b h', Heap.SameBut a s.heap h' → HasSet prog w h' a (if k ∈ ns then ns else ns ++ [k]) → Q b { s with heap := h' }) :
    wpAny (model prog w) A (setAddHashed a x ((intKind prog w).hash k)) Q E s := by
  obtain ⟨o, es, ep, t, z⟩ := hS
  have hl : es.size = ns.length := by rw [← z.pm.length_eq, List.length_map, Array.length_toList]
  unfold setAddHashed setAddHashedIn
  refine wpAny_holding (wpAny_bind (wpAny_setState_of z.ho z.hd z.ft ?_))
  dsimp only
  rw [byScan_of sc z.sz z.el, if_pos rfl]
  unfold setAddByScan
  refine wpAny_bind (wpAny_bind (wpAny_rule (wpAny_bind (wpAny_setScan_of hk z.ho z.hd z.ft z.el ?_))))
  cases hr : List.findIdx? (fun e => (intKind prog w).is k e.2) es.toList with
  | some j =>
    dsimp only
    obtain ⟨hj, hpj, _⟩ := List.findIdx?_eq_some_iff_getElem.mp hr
    have hm : k ∈ ns := z.pm.mem_iff.mp ((el_mem z.el k).mp ⟨_, List.getElem_mem hj, hpj⟩)
    refine wpAny_pure (wpAny_pure ?_)
    have e : s = { s with heap := s.heap } := by cases s; rfl
    rw [e]
    refine h false s.heap (Heap.SameBut.refl a s.heap) ?_
    rw [if_pos hm]
    exact ⟨o, es, ep, t, z⟩
  | none =>
    dsimp only
    have hm : k ∉ ns := fun hm => by
      obtain ⟨e, he, hp⟩ := (el_mem z.el k).mpr (z.pm.mem_iff.mpr hm)
      have := List.findIdx?_eq_none_iff.mp hr e he
      rw [hp] at this; cases this
    have gw : ∀ (b : Bool) (s₁ : Shared) (Q' : Unit → Shared → Prop), Q' () s₁ → wpAny (model prog w) A (match b with | true => rule "set.scan.the-table-gave-way" | false => pure ()) Q' E s₁ :=
      fun b s₁ Q' hq => by cases b <;> first | exact wpAny_pure hq | exact wpAny_rule hq
    have hp := layNew_perm t es ((intKind prog w).hash k) x
    have hf := layNew_fits t es ((intKind prog w).hash k) x
    have ht := z.tk.layNew es ((intKind prog w).hash k) x
    revert hp hf ht
    generalize layNew t es ((intKind prog w).hash k) x = Lr
    obtain ⟨es1, t1, dm, gave⟩ := Lr
    intro hp hf ht
    dsimp only at hp hf ht ⊢
    rw [Array.toList_push] at hp
    have el1 : ElemsOf (intKind prog w) es1.toList := (z.el.push hk sc).perm hp
    have vx : vInt x = k := by obtain ⟨tt, e⟩ := is_int.mp hk; rw [e]; rfl
    have pm1 : (es1.toList.map fun e => vInt e.2).Perm (ns ++ [k]) := by
      refine (hp.map _).trans ?_
      rw [List.map_append]
      show (_ ++ [vInt x]).Perm _
      rw [vx]
      exact z.pm.append_right [k]
    have s1 : es1.size = es.size + 1 := by rw [← Array.length_toList, hp.length_eq, List.length_append, Array.length_toList]; rfl
    have sz1 : es1.size < scanBound := by rw [s1, hl]; exact room
    have fin : ∀ h', Heap.SameBut a s.heap h' → HasSet prog w h' a (ns ++ [k]) → Q true { s with heap := h' } := fun h' hb hs => by
      refine h true h' hb ?_
      rw [if_neg hm]; exact hs
    refine wpAny_bind (gw _ _ _ ?_)
    split
    · refine wpAny_bind ?_
      rw [hashByValue_scannable 8 sc]
      refine wpAny_pure ?_
      refine add_tail ?_ z.ho z.hx z.hd el1 pm1 sz1 ?_ ?_ ?_
      · intro b s₁ Q' hq; cases b <;> first | exact wpAny_pure hq | exact wpAny_rule hq
      · split
        · exact hf
        · exact SetTable.fits_plain_off hf
      · split
        · exact ht
        · exact ht.plainOff
      · intro h' hb hs; dsimp only; exact wpAny_pure (fin h' hb hs)
    · refine wpAny_bind (wpAny_pure ?_)
      simp only [↓reduceIte]
      refine add_tail ?_ z.ho z.hx z.hd el1 pm1 sz1 hf ht ?_
      · intro b s₁ Q' hq; cases b <;> first | exact wpAny_pure hq | exact wpAny_rule hq
      · intro h' hb hs; dsimp only; exact wpAny_pure (fin h' hb hs)
end
end PySem
set_option Elab.async false
set_option linter.all false
set_option maxRecDepth 100000
set_option maxHeartbeats 4000000
namespace PySem
def insK (acc : List Int) (k : Int) : List Int := if k ∈ acc then acc else acc ++ [k]
def unl (ns : List Int) : List Int := ns.foldl insK []
theorem insK_len (acc : List Int) (k : Int) : (insK acc k).length ≤ acc.length + 1 := by
  unfold insK; split
  · omega
  · rw [List.length_append]; simp
theorem unl_succ {ns : List Int} {i : Nat} {k : Int} (h : ns[i]? = some k) : unl (ns.take (i + 1)) = insK (unl (ns.take i)) k := by
  unfold unl
  rw [List.take_succ, h, List.foldl_append]; rfl
theorem foldl_len : ∀ (ns acc : List Int), (ns.foldl insK acc).length ≤ acc.length + ns.length
  | [], acc => by simp
  | a :: l, acc => by
    have := foldl_len l (insK acc a)
    have := insK_len acc a
    rw [List.foldl_cons, List.length_cons]; omega
theorem unl_len (ns : List Int) : (unl ns).length ≤ ns.length := by have := foldl_len ns []; simpa [unl] using this
theorem insK_nodup {acc : List Int} {k : Int} (h : acc.Nodup) : (insK acc k).Nodup := by
  unfold insK; split
  · exact h
  · next hk =>
    rw [List.nodup_append]
    refine ⟨h, by simp, fun a ha b hb e => hk ?_⟩
    have : b = k := by simpa using hb
    rw [← this, ← e]; exact ha
theorem foldl_nodup : ∀ (ns acc : List Int), acc.Nodup → (ns.foldl insK acc).Nodup
  | [], acc, h => h
  | a :: l, acc, h => foldl_nodup l _ (insK_nodup h)
theorem unl_nodup (ns : List Int) : (unl ns).Nodup := foldl_nodup ns [] List.nodup_nil
theorem mem_insK {acc : List Int} {k x : Int} : x ∈ insK acc k ↔ x ∈ acc ∨ x = k := by
  unfold insK; split
  · next h => exact ⟨.inl, fun z => z.elim id fun e => e ▸ h⟩
  · simp
theorem mem_foldl : ∀ (ns acc : List Int) (x : Int), x ∈ ns.foldl insK acc ↔ x ∈ acc ∨ x ∈ ns
  | [], acc, x => by simp
  | a :: l, acc, x => by
    rw [List.foldl_cons, mem_foldl l, mem_insK, List.mem_cons, or_assoc]
theorem mem_unl {ns : List Int} {x : Int} : x ∈ unl ns ↔ x ∈ ns := by unfold unl; rw [mem_foldl]; simp
section
variable {prog : Program} {w : World} {A : Around} {R : Result → Shared → Prop} {I : Addr} {fp wr : List Addr} {G : Array GenState → Array GenState → Prop} {n : Nat} {P : Nat → Value → Prop} {St : Nat → Shared → Prop}
theorem seti_turns (W : WalksS prog w A.in1 I fp wr G n P St) (S : Addr) (hSf : S ∉ fp) (ns : List Int) (hval : ∀ i v, P i v → ∃ x t, ns[i]? = some x ∧ v = .int x t) (hb : n + 1 < scanBound) :
    ∀ (k i : Nat) (s : Shared), n - i = k → i ≤ n → St i s → HasSet prog w s.heap S (unl (ns.take i)) →
      (∀ s', Moved (S :: wr) G s s' → HasSet prog w s'.heap S (unl (ns.take n)) → R (.ok (.ret .none)) s') →
      codeAny (model prog w) A (.builtin "set.update.loop" ⟨[.ref S, .ref I], []⟩) R s := by
  have hSw : S ∉ wr := fun h => hSf (W.sub _ h)
  have hsub : ∀ b ∈ wr, b ∈ S :: wr := fun b hb => List.mem_cons_of_mem _ hb
  intro k
  induction k with
  | zero =>
    intro i s hk hi hst hS hR
    have hin : i = n := by omega
    subst hin
    refine codeAny_builtin PyProof.Rows.F.entry_set_update_loop ?_
    rw [Around.under_plainId PyProof.Rows.F.plain_set_update_loop _]
    refine wpAny_bind (m := pyNext (.ref I)) (W.done s _ _ hst fun s' hm => ?_)
    show wpAny _ A.in1 (ret Value.none) _ _ s'
    exact wpAny_pure (hR s' (hm.mono hsub) (hS.at fun o e => hm.heap S _ hSw e))
  | succ k ih =>
    intro i s hk hi hst hS hR
    have hlt : i < n := by omega
    refine codeAny_builtin PyProof.Rows.F.entry_set_update_loop ?_
    rw [Around.under_plainId PyProof.Rows.F.plain_set_update_loop _]
    refine wpAny_bind (m := pyNext (.ref I)) (W.item i s _ _ hlt hst fun v s' hP hst' hm => ?_)
    obtain ⟨x, t, hx, rfl⟩ := hval i v hP
    have hS' : HasSet prog w s'.heap S (unl (ns.take i)) := hS.at fun o e => hm.heap S _ hSw e
    show wpAny _ A.in1 (holding [Value.int x t] (setAdd S (.int x t)) >>= _) _ _ s'
    refine wpAny_bind (wpAny_holding ?_)
    unfold setAdd
    refine wpAny_holding (wpAny_bind ((intKind prog w).pyHash (k := x) (intKind_is _ _ _ _) ?_))
    have hroom : (unl (ns.take i)).length + 1 < scanBound := by
      have := unl_len (ns.take i)
      have := List.length_take_le i ns
      omega
    refine add_hashed (s := { s' with toks := s'.toks + 1 }) (intKind_is _ _ _ _) rfl hS' hroom fun b h' hsb hS2 => ?_
    have hSi : HasSet prog w h' S (unl (ns.take (i + 1))) := by rw [unl_succ hx]; exact hS2
    refine wpAny_pure ⟨plainId_quiet PyProof.Rows.F.plain_set_update_loop _, ih (i + 1) _ (by omega) hlt (W.frame _ s' _ _ hst' (Nat.le_succ _) fun b hb o e => ?_) hSi fun s'' hm'' hS'' => ?_⟩
    · rw [hsb.2 b (fun h : b = S => hSf (by rw [← h]; exact hb))]; exact e
    · refine hR s'' (Moved.trans W.gtrans ((hm.mono hsub).then_heap (Nat.le_succ _) fun b o hb e => ?_) hm'') hS''
      rw [hsb.2 b (fun h : b = S => hb (by rw [h]; exact List.mem_cons_self))]; exact e
end
section
variable {prog : Program} {w : World} {A : Around} {E : Value → Shared → Prop} {s : Shared}
theorem set_new_led (a : Value) {Q₁ : Value → Shared → Prop}
    (h : Q₁ (.ref s.heap.objs.size) { s with heap := s.heap.push { cls := .type "set", dict := none, data := .set #[] 0 (.fresh 0 0 (ledOf w)) } }) :
    codeAny (model prog w) A (.call (.builtin "set.__new__") ⟨[.type "set", a], []⟩) (wants Q₁ E) s := by
  refine codeAny_of_tree ?_
  refine wpAny_bind (m := checkBuiltinCall "set.__new__" ⟨[.type "set", a], []⟩) (wpAny_of_eq (F.newCall_set_1 a) (wpAny_pure ⟨plainId_quiet F.plain_set_new _, codeAny_builtin F.entry_set_new ?_⟩))
  rw [Around.under_plainId F.plain_set_new _]
  unfold Builtin.«set.__new__» Builtin.Frozenset.newClass
  have hsub := sub_set_self
  obtain ⟨hp, g, d, tk, os⟩ := s
  dsimp only
  wp_walk
  refine wpAny_askSetting (wpAny_pure ?_)
  dsimp only
  simp only [newObj]
  exact wpAny_bind (wpAny_alloc (wpAny_pure (wpAny_pure h)))
def SetMadeI (prog : Program) (w : World) (s : Shared) (ns : List Int) (h' : Heap) : Prop :=
  HasSet prog w h' s.heap.objs.size (unl ns) ∧ ∀ b o, b < s.heap.objs.size → s.heap.get? b = some o → h'.get? b = some o
theorem fresh_has {h : Heap} {a : Addr} (e : h.get? a = some { cls := .type "set", dict := none, data := .set #[] 0 (.fresh 0 0 (ledOf w)) }) : HasSet prog w h a [] :=
  ⟨_, #[], 0, _, e, ⟨rfl, rfl, rfl⟩, rfl, fun e he => by simp at he, by simp, by decide, by rfl, TOk.fresh 0 0 _⟩
theorem call_set_ints {l : Addr} {items : Array Value} {ns : List Int} {Q : Value → Shared → Prop} (hh : A.handled = none) (hl : s.heap.IsList l items) (hsz : items.size = ns.length) (hi : ∀ (i : Nat) (v : Value), items[i]? = some v → ∃ x t, ns[i]? = some x ∧ v = .int x t) (hb : ns.length + 1 < scanBound)
    (h : ∀ (h' : Heap) (tk : Nat), SetMadeI prog w s ns h' → Q (.ref s.heap.objs.size) { s with heap := h', toks := tk }) : wpAny (model prog w) A (call (.type "set") [.ref l]) Q E s := by
  obtain ⟨c, tl, hmro⟩ := F.called_set.mro
  have hmade := F.called_set.made
  have hsub := F.called_set.sub
  refine wpAny_call (codeAny_of_tree ?_)
  show wpAny _ _ (callAny (.type "set") _) _ _ _
  refine wpAny_pure ⟨Code.quiet_builtin _ (by decide +kernel), codeAny_builtin F.entry_type_call ?_⟩
  rw [Around.under_plain (weight_type_call_type "set" [.ref l] []) rfl]
  have h1 := F.called_set.notType
  have h2 := F.called_set.canCreate
  have hct := F.typeCall_set_1 (.ref l)
  repeat (any_goals (first | assumption | wp_step))
  refine codeAny_mono (set_new_led (.ref l) (E := E) (Q₁ := fun obj s₁ => obj = .ref s.heap.objs.size ∧ s₁ = { s with heap := s.heap.push { cls := .type "set", dict := none, data := .set #[] 0 (.fresh 0 0 (ledOf w)) } }) ⟨rfl, rfl⟩) fun r s₁ hr => ?_
  cases r with
  | error e => exact hr
  | ok fl =>
    cases fl with
    | ret obj =>
      obtain ⟨rfl, rfl⟩ := hr
      generalize hob : ({ cls := .type "set", dict := none, data := .set #[] 0 (.fresh 0 0 (ledOf w)) } : Obj) = so
      have hS : (s.heap.push so).get? s.heap.objs.size = some so := Heap.get?_push_size _ (by rw [← hob]; rfl)
      have hT : Shared.TypeIs { s with heap := s.heap.push so } (.ref s.heap.objs.size) "set" := ⟨_, hS, by rw [← hob]⟩
      have hli := F.called_set.init.lookup
      have hbi := F.called_set.init.bind (.ref s.heap.objs.size)
      repeat (any_goals (first | assumption | wp_step))
      refine codeAny_mono (codeAny_call_builtin (R := wants (fun r s₂ => r = .none ∧ ∃ h' tk, s₂ = { s with heap := h', toks := tk } ∧ SetMadeI prog w s ns h') E) F.called_set.init.plain F.entry_set_init (check_set_init_1 hT ?_)) fun r₂ s₂ hr₂ => ?_
      · subst hob
        obtain ⟨ol, hol, hcl, nl, hdl⟩ := hl
        obtain ⟨ocls, odict, odata, oslots⟩ := ol
        simp only at hcl hdl
        subst hcl; subst hdl
        have hol' : (s.heap.push { cls := .type "set", dict := none, data := .set #[] 0 (.fresh 0 0 (ledOf w)) }).get? l = some { cls := .type "list", dict := odict, data := .seq items nl, slots := oslots } := Heap.get?_push_of_some _ hol
        have hsls := F.sub_list_set
        have hslf := F.sub_list_frozenset
        have hne : (Value.type "list" == Value.type "dict") = false := by decide
        have hl1 : (s.heap.push { cls := .type "set", dict := none, data := .set #[] 0 (.fresh 0 0 (ledOf w)) }).IsList l items := ⟨_, hol', rfl, nl, rfl⟩
        unfold Builtin.«set.__init__» noKeywords Builtin.Frozenset.updateFrom
        generalize hPI : pyIter = PI
        wp_walk
        subst hPI
        refine wpAny_pyIter_list (s := { s with heap := s.heap.push { cls := .type "set", dict := none, data := .set #[] 0 (.fresh 0 0 (ledOf w)) } }) hl1 ?_
        refine wpAny_bind (wpAny_runValue ?_)
        have hlS : l < s.heap.objs.size := Heap.lt_size hol
        have hh3 : A.in1.in1.in1.handled = none := by simp [hh]
        have hz : (s.heap.push { cls := .type "set", dict := none, data := .set #[] 0 (.fresh 0 0 (ledOf w)) }).objs.size = s.heap.objs.size + 1 := Heap.size_push ..
        have hneI : l ≠ (s.heap.push { cls := .type "set", dict := none, data := .set #[] 0 (.fresh 0 0 (ledOf w)) }).objs.size := by rw [hz]; exact Nat.ne_of_lt (Nat.lt_succ_of_lt hlS)
        have hSf : s.heap.objs.size ∉ [(s.heap.push { cls := .type "set", dict := none, data := .set #[] 0 (.fresh 0 0 (ledOf w)) }).objs.size, l] := by
          rw [hz]; simp only [List.mem_cons, List.mem_singleton, List.not_mem_nil, or_false, not_or]
          exact ⟨Nat.ne_of_lt (Nat.lt_succ_self _), Nat.ne_of_gt hlS⟩
        refine seti_turns ((Walks.list hh3 _ l hneI items).toS) s.heap.objs.size hSf ns hi (by rw [hsz]; exact hb) (items.size - 0) 0 _ (by omega) (Nat.zero_le _)
          ⟨⟨_, Heap.get?_push_size _ rfl, rfl, rfl⟩, (hl1.push _)⟩ ?hS0 ?hR
        case hS0 => exact fresh_has (Heap.get?_push_of_some { cls := .type "list_iterator", data := .fields #[.ref l, .int 0 0] } hS)
        case hR =>
          intro s' hm hS'
          obtain ⟨h', g', d', tk', os'⟩ := s'
          have eg : g' = s.gens := hm.gens
          have ed : d' = s.drawn := hm.drawn
          have eo : os' = s.os := hm.os
          subst eg; subst ed; subst eo
          refine wpAny_pure ?_
          show wpAny _ _ (ret Value.none) _ _ _
          rw [hsz, List.take_length] at hS'
          refine wpAny_pure ⟨rfl, h', tk', rfl, hS', fun b o hb e => ?_⟩
          refine hm.heap b o ?_ (Heap.get?_push_of_some _ (Heap.get?_push_of_some _ e))
          rw [hz]
          simp only [List.mem_cons, List.mem_singleton, List.not_mem_nil, or_false, not_or]
          exact ⟨Nat.ne_of_lt hb, Nat.ne_of_lt (Nat.lt_succ_of_lt hb)⟩
      · cases r₂ with
        | error e => exact hr₂
        | ok fl₂ =>
          cases fl₂ with
          | ret r =>
            obtain ⟨rfl, h', tk, rfl, hM⟩ := hr₂
            repeat (any_goals (first | assumption | wp_step))
            exact h _ _ hM
          | _ => exact hr₂.elim
    | _ => exact hr.elim
end
end PySem
set_option Elab.async false
set_option linter.all false
set_option maxRecDepth 100000
set_option maxHeartbeats 4000000
namespace PySem
theorem erase_perm {α : Type} {l : List α} {i : Nat} (h : i < l.length) : (l[i] :: l.eraseIdx i).Perm l := by
  rw [List.eraseIdx_eq_take_drop_succ]
  refine List.perm_middle.symm.trans ?_
  rw [List.getElem_cons_drop, List.take_append_drop]
theorem pickGo_perm {α : Type} (next : Nat → Nat) : ∀ (fuel k : Nat) (left : List α) (out : Array α), left.length = fuel → (pickOrder.go next fuel k left out).toList.Perm (out.toList ++ left) := by
  intro fuel
  induction fuel with
  | zero =>
    intro k left out h
    have e : left = [] := List.length_eq_zero_iff.mp h
    subst e
    unfold pickOrder.go
    rw [List.append_nil]
  | succ n ih =>
    intro k left out h
    have hl : next k % left.length < left.length := Nat.mod_lt _ (by omega)
    unfold pickOrder.go
    rw [List.getElem?_eq_getElem hl]
    dsimp only
    refine (ih _ _ _ (by rw [List.length_eraseIdx, if_pos hl]; omega)).trans ?_
    rw [Array.toList_push, List.append_assoc]
    refine List.Perm.append_left _ ?_
    exact erase_perm hl
theorem pickOrder_perm {α : Type} (next : Nat → Nat) (xs : Array α) : (pickOrder next xs).toList.Perm xs.toList := by
  unfold pickOrder
  simpa using pickGo_perm next xs.size 0 xs.toList #[] (by simp)
section
variable {prog : Program} {w : World} {A : Around} {E : Value → Shared → Prop} {s : Shared}
theorem wpAny_choose' {src : Source} {n : Nat} {Q : Nat → Shared → Prop} (hn : n ≠ 0) (h : ∀ i d, i < n → Q i { s with drawn := d }) : wpAny (model prog w) A (choose src n) Q E s := fun Γ p hΓ => by
  unfold choose
  rw [Sem.wp_choose]
  refine ⟨hn, ?_⟩
  exact h _ _ (Nat.mod_lt _ (Nat.pos_of_ne_zero hn))
theorem wpAny_drawOrder {α : Type} : ∀ (n : Nat) (xs : List α) (s : Shared) (Q : List α → Shared → Prop), xs.length = n → (∀ ys d, ys.Perm xs → Q ys { s with drawn := d }) → wpAny (model prog w) A (drawOrder n xs) Q E s := by
  intro n
  induction n with
  | zero =>
    intro xs s Q h hQ
    have e : xs = [] := List.length_eq_zero_iff.mp h
    subst e
    unfold drawOrder
    exact wpAny_pure (hQ [] s.drawn (List.Perm.refl _))
  | succ n ih =>
    intro xs s Q h hQ
    cases xs with
    | nil => cases h
    | cons x xs =>
      unfold drawOrder
      refine wpAny_bind (wpAny_choose' (by simp) fun i d hi => ?_)
      rw [List.getElem?_eq_getElem hi]
      dsimp only
      refine wpAny_bind (ih _ _ _ (by rw [List.length_eraseIdx, if_pos hi]; simp at h ⊢; omega) fun ys d' hp => ?_)
      refine wpAny_pure (hQ _ d' ?_)
      exact (List.Perm.cons _ hp).trans (erase_perm hi)
end
namespace Fs
theorem nslot : Slot "set_iterator" "__next__" "set_iterator.__next__" := .of (owner := "set_iterator") (n := "__next__") (by rw [typeLookup_type, builtinLookup_eq_fast]; kernel_rfl) (by decide +kernel) (by decide +kernel) (by decide +kernel) (.inl (by decide +kernel)) (by rw [isSubtype_type]; kernel_rfl)
theorem nentry : entryFor table "set_iterator.__next__" = some Builtin.«set_iterator.__next__» := entryFor_of_tree (by kernel_rfl)
theorem nowner : Manifest.owners.lookup (String.ofList ['r', 'o', 't', 'a', 'r', 'e', 't', 'i', '_', 't', 'e', 's'].reverse) = some Manifest.sig_set_iterator := by kernel_rfl
theorem nargs (a : Value) : argsOk "set_iterator.__next__" ⟨[a], []⟩ := by
  unfold argsOk; rw [signature?_of (id := "set_iterator.__next__") (n := ['_', '_', 't', 'x', 'e', 'n', '_', '_']) (o := ['r', 'o', 't', 'a', 'r', 'e', 't', 'i', '_', 't', 'e', 's']) (by kernel_rfl) nowner]; kernel_rfl
theorem islot : Slot "set_iterator" "__iter__" "set_iterator.__iter__" := .of (owner := "set_iterator") (n := "__iter__") (by rw [typeLookup_type, builtinLookup_eq_fast]; kernel_rfl) (by decide +kernel) (by decide +kernel) (by decide +kernel) (.inl (by decide +kernel)) (by rw [isSubtype_type]; kernel_rfl)
theorem ientry : entryFor table "set_iterator.__iter__" = some Builtin.«dict_keyiterator.__iter__» := entryFor_alias (id' := "dict_keyiterator.__iter__") (by kernel_rfl) rfl (by decide +kernel) (by kernel_rfl)
theorem iargs (a : Value) : argsOk "set_iterator.__iter__" ⟨[a], []⟩ := by
  unfold argsOk; rw [signature?_of (id := "set_iterator.__iter__") (n := ['_', '_', 'r', 'e', 't', 'i', '_', '_']) (o := ['r', 'o', 't', 'a', 'r', 'e', 't', 'i', '_', 't', 'e', 's']) (by kernel_rfl) nowner]; kernel_rfl
theorem sentry : entryFor table "set.__iter__" = some Builtin.«frozenset.__iter__» := entryFor_alias (id' := "frozenset.__iter__") (by kernel_rfl) rfl (by decide +kernel) (by kernel_rfl)
end Fs
def SIt (h : Heap) (I : Addr) (f : Value) (i : Nat) (a : Addr) (n ep : Nat) : Prop := ∃ o, h.get? I = some o ∧ o.cls = .type "set_iterator" ∧ o.data = .fields #[f, .int i 0, .ref a, .int n 0, .int ep 0]
theorem SIt.typeIs {s : Shared} {I : Addr} {f : Value} {i : Nat} {a : Addr} {n ep : Nat} (h : SIt s.heap I f i a n ep) : s.TypeIs (.ref I) "set_iterator" := let ⟨o, ho, hc, _⟩ := h; ⟨o, ho, hc⟩
theorem SIt.at {h h' : Heap} {I : Addr} {f : Value} {i : Nat} {a : Addr} {n ep : Nat} (x : SIt h I f i a n ep) (e : ∀ o, h.get? I = some o → h'.get? I = some o) : SIt h' I f i a n ep := let ⟨o, ho, r⟩ := x; ⟨o, e _ ho, r⟩
section
variable {prog : Program} {w : World} {A : Around} {E : Value → Shared → Prop} {s : Shared}
theorem sit_iter {I : Addr} {f : Value} {i : Nat} {a : Addr} {n ep : Nat} {Q : Value → Shared → Prop} (hit : SIt s.heap I f i a n ep) (h : Q (.ref I) s) : wpAny (model prog w) A (pyIter (.ref I)) Q E s := by
  refine wpAny_pyIter_slot hit.typeIs Fs.islot (wpAny_call_entry Fs.islot hit.typeIs Fs.ientry ?_ (Fs.iargs _))
  show wpAny _ _ (ret (.ref I)) _ _ s
  exact wpAny_pure ⟨_, rfl, "set_iterator", _, hit.typeIs, Fs.nslot.lookup, h⟩
theorem sit_set {I : Addr} {f f' : Value} {i : Nat} {a : Addr} {n ep : Nat} {h : Heap} (hit : SIt h I f i a n ep) (e : h.get? I = h.get? I) : SIt ((h.update I (Obj.mapFields (·.setIfInBounds 0 f'))).update I (Obj.mapFields (·.setIfInBounds 1 (rawInt ((i : Int) + 1))))) I f' (i + 1) a n ep := by
  obtain ⟨o, ho, hc, hd⟩ := hit
  have h1 := Heap.get?_update_self (Obj.mapFields (·.setIfInBounds 0 f')) ho (Obj.isFreed_of_fields (Obj.data_mapFields hd _))
  have d1 := Obj.data_mapFields hd (·.setIfInBounds 0 f')
  have h2 := Heap.get?_update_self (Obj.mapFields (·.setIfInBounds 1 (rawInt ((i : Int) + 1)))) h1 (Obj.isFreed_of_fields (Obj.data_mapFields d1 _))
  refine ⟨_, h2, (Obj.cls_mapFields ..).trans ((Obj.cls_mapFields ..).trans hc), ?_⟩
  rw [Obj.data_mapFields d1]
  simp [rawInt]
theorem sit_set1 {I : Addr} {f : Value} {i : Nat} {a : Addr} {n ep : Nat} {h : Heap} (hit : SIt h I f i a n ep) : SIt (h.update I (Obj.mapFields (·.setIfInBounds 1 (rawInt ((i : Int) + 1))))) I f (i + 1) a n ep := by
  obtain ⟨o, ho, hc, hd⟩ := hit
  have h2 := Heap.get?_update_self (Obj.mapFields (·.setIfInBounds 1 (rawInt ((i : Int) + 1)))) ho (Obj.isFreed_of_fields (Obj.data_mapFields hd _))
  refine ⟨_, h2, (Obj.cls_mapFields ..).trans hc, ?_⟩
  rw [Obj.data_mapFields hd]
  simp [rawInt]
theorem sit_item_int {I : Addr} {sl i : Nat} {a : Addr} {n ep : Nat} {Q : Option Value → Shared → Prop} (hit : SIt s.heap I (.int sl 0) i a n ep) {o : Obj} {es : Array (Int × Value)} {t : SetTable} (ho : s.heap.get? a = some o) (hd : o.data = .set es ep t) (ft : t.fits es.size = true) (hn : es.size = n) {x : Value} {nx : Nat}
    (hx : ∀ (A : Around) (E : Value → Shared → Prop) (Q : Option (Value × Nat) → Shared → Prop), Q (some (x, nx)) s → wpAny (model prog w) A (setNext a sl i ep) Q E s)
    (hQ : ∀ h', SIt h' I (.int nx 0) (i + 1) a n ep → Heap.SameBut I s.heap h' → Q (some x) { s with heap := h' }) : wpAny (model prog w) A (pyNext (.ref I)) Q E s := by
  obtain ⟨oI, hoI, hcI, hdI⟩ := id hit
  unfold pyNext
  refine wpAny_bind (wpAny_attempt (wpAny_callSpecial?_slot (name := Str.ofString "__next__") hit.typeIs Fs.nslot (wpAny_call_entry Fs.nslot hit.typeIs Fs.nentry ?_ (Fs.nargs _))))
  unfold Builtin.«set_iterator.__next__»
  refine wpAny_bind (wpAny_pure ?_)
  refine wpAny_bind (wpAny_fieldsOf hoI hdI ?_)
  dsimp only
  refine wpAny_bind (wpAny_setEntries_of ho hd ft ?_)
  rw [if_neg (by rw [hn]; simp)]
  rw [Int.toNat_natCast, Int.toNat_natCast, Int.toNat_natCast]
  refine wpAny_bind (hx _ _ _ ?_)
  dsimp only
  refine wpAny_bind (wpAny_setField hoI hdI (by simp) ?_)
  have h1 := Heap.get?_update_self (Obj.mapFields (·.setIfInBounds 0 (rawInt (nx : Int)))) hoI (Obj.isFreed_of_fields (Obj.data_mapFields hdI _))
  have d1 := Obj.data_mapFields hdI (·.setIfInBounds 0 (rawInt (nx : Int)))
  refine wpAny_bind (wpAny_setField (s := { s with heap := _ }) h1 d1 (by simp) ?_)
  refine wpAny_pure ⟨_, rfl, wpAny_pure (hQ _ (sit_set hit rfl) ((Heap.SameBut.update ..).trans (Heap.SameBut.update ..)))⟩
theorem sit_end_int {I : Addr} {sl i : Nat} {a : Addr} {n ep : Nat} {Q : Option Value → Shared → Prop} (hh : A.handled = none) (hit : SIt s.heap I (.int sl 0) i a n ep) {o : Obj} {es : Array (Int × Value)} {t : SetTable} (ho : s.heap.get? a = some o) (hd : o.data = .set es ep t) (ft : t.fits es.size = true) (hn : es.size = n)
    (hx : ∀ (A : Around) (E : Value → Shared → Prop) (Q : Option (Value × Nat) → Shared → Prop), Q none s → wpAny (model prog w) A (setNext a sl i ep) Q E s)
    (hQ : ∀ h', Heap.ExtBut I s.heap h' → Q none { s with heap := h' }) : wpAny (model prog w) A (pyNext (.ref I)) Q E s := by
  obtain ⟨oI, hoI, hcI, hdI⟩ := id hit
  unfold pyNext
  refine wpAny_bind (wpAny_attempt (wpAny_callSpecial?_slot (name := Str.ofString "__next__") hit.typeIs Fs.nslot (wpAny_call_entry Fs.nslot hit.typeIs Fs.nentry ?_ (Fs.nargs _))))
  unfold Builtin.«set_iterator.__next__»
  refine wpAny_bind (wpAny_pure ?_)
  refine wpAny_bind (wpAny_fieldsOf hoI hdI ?_)
  dsimp only
  refine wpAny_bind (wpAny_setEntries_of ho hd ft ?_)
  rw [if_neg (by rw [hn]; simp)]
  rw [Int.toNat_natCast, Int.toNat_natCast, Int.toNat_natCast]
  refine wpAny_bind (hx _ _ _ ?_)
  dsimp only
  refine wpAny_bind (wpAny_setField hoI hdI (by simp) ?_)
  refine wpAny_bind (m := newExc (.type "StopIteration") []) ?_
  simp only [newExc, newTuple]
  refine wpAny_bind (wpAny_newObj_type ?_ (by size_fits))
  refine wpAny_bind (m := firstArgMember _ _) (wpAny_of_eq (a := Value.none) (by first | rfl | (simp only [firstArgMember]; rfl)) ?_)
  refine wpAny_newObj_type ?_ (by size_fits)
  simp only [raiseNew]
  refine wpAny_bind (wpAny_handled ?_)
  rw [show A.in1.handled = none from hh]
  refine wpAny_bind (wpAny_pure (wpAny_throw ?_))
  refine wpAny_bind (wpAny_isInstance (T := "StopIteration") (b := true) ⟨_, Heap.get?_push_size _ rfl, rfl⟩ isSubtype_stop ?_)
  exact wpAny_pure (hQ _ (((Heap.SameBut.update ..).extBut.push _).push _))
end
end PySem
set_option Elab.async false
set_option linter.all false
set_option maxRecDepth 100000
set_option maxHeartbeats 4000000
namespace PySem
section
variable {prog : Program} {w : World} {A : Around} {E : Value → Shared → Prop} {s : Shared}
theorem wpAny_seq? {T : Addr} {oT : Obj} {vs : Array Value} {c : Nat} {Q : Option (Array Value) → Shared → Prop} (ho : s.heap.get? T = some oT) (hd : oT.data = .seq vs c) (h : Q (some vs) s) : wpAny (model prog w) A (seqItems? (.ref T)) Q E s := by
  unfold seqItems?
  dsimp only
  refine wpAny_bind (wpAny_load ho ?_)
  rw [hd]
  exact wpAny_pure h
theorem sit_item_tup {I T : Addr} {i : Nat} {a : Addr} {n ep : Nat} {Q : Option Value → Shared → Prop} (hit : SIt s.heap I (.ref T) i a n ep) {o : Obj} {es : Array (Int × Value)} {t : SetTable} (ho : s.heap.get? a = some o) (hd : o.data = .set es ep t) (ft : t.fits es.size = true) (hn : es.size = n)
    {oT : Obj} {vs : Array Value} {c : Nat} (hoT : s.heap.get? T = some oT) (hdT : oT.data = .seq vs c) {pl : Nat} {tk : Tok} (hv : vs[i]? = some (.int pl tk)) {x : Int × Value} (hx : es[pl]? = some x)
    (hQ : ∀ h', SIt h' I (.ref T) (i + 1) a n ep → Heap.SameBut I s.heap h' → Q (some x.2) { s with heap := h' }) : wpAny (model prog w) A (pyNext (.ref I)) Q E s := by
  obtain ⟨oI, hoI, hcI, hdI⟩ := id hit
  unfold pyNext
  refine wpAny_bind (wpAny_attempt (wpAny_callSpecial?_slot (name := Str.ofString "__next__") hit.typeIs Fs.nslot (wpAny_call_entry Fs.nslot hit.typeIs Fs.nentry ?_ (Fs.nargs _))))
  unfold Builtin.«set_iterator.__next__»
  refine wpAny_bind (wpAny_pure ?_)
  refine wpAny_bind (wpAny_fieldsOf hoI hdI ?_)
  dsimp only
  refine wpAny_bind (wpAny_setEntries_of ho hd ft ?_)
  rw [if_neg (by rw [hn]; simp)]
  refine wpAny_bind (wpAny_seq? hoT hdT ?_)
  dsimp only
  rw [Int.toNat_natCast, hv]
  dsimp only
  rw [Int.toNat_natCast, Int.toNat_natCast]
  have hnd : ∀ (A : Around) (E : Value → Shared → Prop) (Q : Value → Shared → Prop), Q x.2 s → wpAny (model prog w) A (setNextDrawn a pl ep) Q E s := fun A E Q q => by
    unfold setNextDrawn
    refine wpAny_bind (wpAny_setState_of ho hd ft ?_)
    dsimp only
    rw [if_neg (by simp), hx]
    exact wpAny_pure q
  refine wpAny_bind (hnd _ _ _ ?_)
  refine wpAny_bind (wpAny_setField hoI hdI (by simp) ?_)
  refine wpAny_pure ⟨_, rfl, wpAny_pure (hQ _ (sit_set1 hit) (Heap.SameBut.update ..))⟩
theorem sit_end_tup {I T : Addr} {i : Nat} {a : Addr} {n ep : Nat} {Q : Option Value → Shared → Prop} (hh : A.handled = none) (hit : SIt s.heap I (.ref T) i a n ep) {o : Obj} {es : Array (Int × Value)} {t : SetTable} (ho : s.heap.get? a = some o) (hd : o.data = .set es ep t) (ft : t.fits es.size = true) (hn : es.size = n)
    {oT : Obj} {vs : Array Value} {c : Nat} (hoT : s.heap.get? T = some oT) (hdT : oT.data = .seq vs c) (hv : vs[i]? = none)
    (hQ : ∀ h', Heap.ExtBut I s.heap h' → Q none { s with heap := h' }) : wpAny (model prog w) A (pyNext (.ref I)) Q E s := by
  obtain ⟨oI, hoI, hcI, hdI⟩ := id hit
  unfold pyNext
  refine wpAny_bind (wpAny_attempt (wpAny_callSpecial?_slot (name := Str.ofString "__next__") hit.typeIs Fs.nslot (wpAny_call_entry Fs.nslot hit.typeIs Fs.nentry ?_ (Fs.nargs _))))
  unfold Builtin.«set_iterator.__next__»
  refine wpAny_bind (wpAny_pure ?_)
  refine wpAny_bind (wpAny_fieldsOf hoI hdI ?_)
  dsimp only
  refine wpAny_bind (wpAny_setEntries_of ho hd ft ?_)
  rw [if_neg (by rw [hn]; simp)]
  refine wpAny_bind (wpAny_seq? hoT hdT ?_)
  dsimp only
  rw [Int.toNat_natCast, hv]
  dsimp only
  refine wpAny_bind (wpAny_setField hoI hdI (by simp) ?_)
  have h1 := Heap.get?_update_self (Obj.mapFields (·.setIfInBounds 0 (rawInt 0))) hoI (Obj.isFreed_of_fields (Obj.data_mapFields hdI _))
  have d1 := Obj.data_mapFields hdI (·.setIfInBounds 0 (rawInt 0))
  refine wpAny_bind (wpAny_setField (s := { s with heap := _ }) h1 d1 (by simp) ?_)
  refine wpAny_bind (m := newExc (.type "StopIteration") []) ?_
  simp only [newExc, newTuple]
  refine wpAny_bind (wpAny_newObj_type ?_ (by size_fits))
  refine wpAny_bind (m := firstArgMember _ _) (wpAny_of_eq (a := Value.none) (by first | rfl | (simp only [firstArgMember]; rfl)) ?_)
  refine wpAny_newObj_type ?_ (by size_fits)
  simp only [raiseNew]
  refine wpAny_bind (wpAny_handled ?_)
  rw [show A.in1.handled = none from hh]
  refine wpAny_bind (wpAny_pure (wpAny_throw ?_))
  refine wpAny_bind (wpAny_isInstance (T := "StopIteration") (b := true) ⟨_, Heap.get?_push_size _ rfl, rfl⟩ isSubtype_stop ?_)
  exact wpAny_pure (hQ _ ((((Heap.SameBut.update ..).trans (Heap.SameBut.update ..)).extBut.push _).push _))
theorem setWalk_text {a : Addr} {o : Obj} {es : Array (Int × Value)} {ep : Nat} {t : SetTable} (ho : s.heap.get? a = some o) (hd : o.data = .set es ep t) (ft : t.fits es.size = true) (bt : w.params.followText "set-order" = true)
    {Q : Array (Int × Value) → Shared → Prop} (h : Q (pickOrder (w.params.setOrder a ep) es) s) : wpAny (model prog w) A (setWalk a) Q E s := by
  unfold setWalk setsByText
  refine wpAny_bind (wpAny_setState_of ho hd ft ?_)
  dsimp only
  refine wpAny_bind (wpAny_bind (wpAny_askSetting (wpAny_pure ?_)))
  refine wpAny_ite_split (fun _ => ?_) (fun c => absurd bt c)
  exact wpAny_bind (wpAny_askSetting (wpAny_pure h))
theorem next_text {a : Addr} {o : Obj} {es : Array (Int × Value)} {ep : Nat} {t : SetTable} (ho : s.heap.get? a = some o) (hd : o.data = .set es ep t) (ft : t.fits es.size = true) (bt : w.params.followText "set-order" = true) (sl i : Nat)
    {Q : Option (Value × Nat) → Shared → Prop} (h : Q (((pickOrder (w.params.setOrder a ep) es)[i]?).map fun e => (e.2, sl)) s) : wpAny (model prog w) A (setNext a sl i ep) Q E s := by
  unfold setNext setsByText
  refine wpAny_bind (wpAny_setState_of ho hd ft ?_)
  dsimp only
  refine wpAny_bind (wpAny_bind (wpAny_askSetting (wpAny_pure ?_)))
  refine wpAny_ite_split (fun _ => ?_) (fun c => absurd bt c)
  rw [if_neg (by simp)]
  exact wpAny_bind (setWalk_text ho hd ft bt (wpAny_pure h))
theorem next_led {a : Addr} {o : Obj} {es : Array (Int × Value)} {ep : Nat} {t : SetTable} (ho : s.heap.get? a = some o) (hd : o.data = .set es ep t) (ft : t.fits es.size = true) (bt : w.params.followText "set-order" = false) (hl : t.led = true) (hp : (!t.plain && decide (es.size > 1)) = false) (sl i : Nat)
    {Q : Option (Value × Nat) → Shared → Prop} (h : Q (match es[SetTable.below t.place sl]?, t.place[SetTable.below t.place sl]? with | some (_, x), some j => some (x, j + 1) | _, _ => none) s) : wpAny (model prog w) A (setNext a sl i ep) Q E s := by
  unfold setNext setsByText
  refine wpAny_bind (wpAny_setState_of ho hd ft ?_)
  dsimp only
  refine wpAny_bind (wpAny_bind (wpAny_askSetting (wpAny_pure ?_)))
  refine wpAny_ite_split (fun c => ?_) (fun _ => ?_)
  · have z : w.params.followText "set-order" = true := c
    rw [bt] at z; cases z
  show wpAny _ _ (if (!t.plain && decide (es.size > 1)) = true then _ else _) _ _ _
  rw [if_neg (by rw [hp]; simp)]
  refine wpAny_bind ?_
  show wpAny _ _ (if (!t.led && !es.isEmpty) = true then _ else _) _ _ _
  rw [if_neg (by rw [hl]; simp)]
  exact wpAny_pure (wpAny_pure h)
end
end PySem
set_option Elab.async false
set_option linter.all false
set_option maxRecDepth 100000
set_option maxHeartbeats 4000000
namespace PySem
section
variable {prog : Program} {w : World} {A : Around} {E : Value → Shared → Prop} {s : Shared} {a I T : Addr} {o : Obj} {es : Array (Int × Value)} {ep : Nat} {t : SetTable} {ns : List Int}
theorem walks_text (hh : A.handled = none) (hne : a ≠ I) (hd : o.data = .set es ep t) (ft : t.fits es.size = true) (bt : w.params.followText "set-order" = true) :
    Walks prog w A I [I, a] [I] es.size (fun i v => ((pickOrder (w.params.setOrder a ep) es).toList.map (·.2))[i]? = some v) (fun i h => SIt h I (.int (0 : Nat) 0) i a es.size ep ∧ h.get? a = some o) where
  sub := fun b hb => by simp at hb; simp [hb]
  frame := fun _ _ _ st hk => ⟨st.1.at fun o e => hk I (by simp) o e, hk a (by simp) o st.2⟩
  item := fun i s Q E hi st hQ => by
    have hl : (pickOrder (w.params.setOrder a ep) es).toList.length = es.size := by rw [(pickOrder_perm _ es).length_eq, Array.length_toList]
    have hx : (pickOrder (w.params.setOrder a ep) es).toList[i]? = some ((pickOrder (w.params.setOrder a ep) es).toList[i]'(by omega)) := List.getElem?_eq_getElem (by omega)
    generalize (pickOrder (w.params.setOrder a ep) es).toList[i]'(by omega) = e at hx
    refine sit_item_int st.1 st.2 hd ft rfl (x := e.2) (nx := 0) (fun A E Q q => next_text st.2 hd ft bt 0 i ?_) fun h' hit' hs' => ?_
    · rw [← Array.getElem?_toList, hx]; exact q
    · exact hQ e.2 h' s.toks (by rw [List.getElem?_map, hx]; rfl) ⟨hit', by rw [hs'.2 a hne]; exact st.2⟩ fun b o hb e => by rw [hs'.2 b (fun h => hb (by simp [h]))]; exact e
  done := fun s Q E st hQ => by
    have hl : (pickOrder (w.params.setOrder a ep) es).toList.length = es.size := by rw [(pickOrder_perm _ es).length_eq, Array.length_toList]
    refine sit_end_int hh st.1 st.2 hd ft rfl (fun A E Q q => next_text st.2 hd ft bt 0 _ ?_) fun h' he' => hQ h' s.toks fun b o hb e => he' b o (fun h => hb (by simp [h])) e
    rw [← Array.getElem?_toList, List.getElem?_eq_none (by omega)]; exact q
  self := fun _ _ _ _ st hQ => sit_iter st.1 hQ
def walkAt (t : SetTable) (i sl : Nat) : Prop := (i = 0 ∧ sl = 0) ∨ ∃ k v, i = k + 1 ∧ t.place.toList[k]? = some v ∧ sl = v + 1
theorem walks_led (hh : A.handled = none) (hne : a ≠ I) (hd : o.data = .set es ep t) (ft : t.fits es.size = true) (bt : w.params.followText "set-order" = false) (tk : TOk true t) (hp : (!t.plain && decide (es.size > 1)) = false) :
    Walks prog w A I [I, a] [I] es.size (fun i v => (es.toList.map (·.2))[i]? = some v) (fun i h => (∃ sl : Nat, SIt h I (.int sl 0) i a es.size ep ∧ walkAt t i sl) ∧ h.get? a = some o) where
  sub := fun b hb => by simp at hb; simp [hb]
  frame := fun _ _ _ ⟨⟨sl, st, z⟩, st2⟩ hk => ⟨⟨sl, st.at fun o e => hk I (by simp) o e, z⟩, hk a (by simp) o st2⟩
  item := fun i s Q E hi st hQ => by
    obtain ⟨⟨sl, st1, zs⟩, st2⟩ := st
    have hpl : t.place.size = es.size := by simp only [SetTable.fits, Bool.and_eq_true, beq_iff_eq] at ft; exact ft.1
    have hb : SetTable.below t.place sl = i := below_at _ tk.ris i (by omega) sl zs
    have hx : es[i]? = some es[i] := Array.getElem?_eq_getElem hi
    have hv : t.place[i]? = some (t.place[i]'(by omega)) := Array.getElem?_eq_getElem (by omega)
    generalize es[i] = e at hx
    generalize t.place[i]'(by omega) = v at hv
    refine sit_item_int st1 st2 hd ft rfl (x := e.2) (nx := v + 1) (fun A E Q q => next_led st2 hd ft bt tk.led hp sl i ?_) fun h' hit' hs' => ?_
    · rw [hb, hx, hv]; exact q
    · exact hQ e.2 h' s.toks (by rw [List.getElem?_map, Array.getElem?_toList, hx]; rfl) ⟨⟨v + 1, hit', .inr ⟨i, v, rfl, by rw [Array.getElem?_toList]; exact hv, rfl⟩⟩, by rw [hs'.2 a hne]; exact st2⟩ fun b o hb e => by rw [hs'.2 b (fun h => hb (by simp [h]))]; exact e
  done := fun s Q E st hQ => by
    obtain ⟨⟨sl, st1, zs⟩, st2⟩ := st
    have hpl : t.place.size = es.size := by simp only [SetTable.fits, Bool.and_eq_true, beq_iff_eq] at ft; exact ft.1
    have hb : SetTable.below t.place sl = es.size := below_at _ tk.ris _ (by omega) sl zs
    refine sit_end_int hh st1 st2 hd ft rfl (fun A E Q q => next_led st2 hd ft bt tk.led hp sl _ ?_) fun h' he' => hQ h' s.toks fun b o hb e => he' b o (fun h => hb (by simp [h])) e
    rw [hb, Array.getElem?_eq_none (Nat.le_refl _)]; exact q
  self := fun _ _ _ _ ⟨⟨sl, st, _⟩, _⟩ hQ => sit_iter st hQ
theorem walks_drawn (hh : A.handled = none) (hne : a ≠ I) (hnT : T ≠ I) (hd : o.data = .set es ep t) (ft : t.fits es.size = true) (ord : List Nat) (hp : ord.Perm (List.range es.size)) :
    Walks prog w A I [I, a, T] [I] es.size (fun i v => (ord.map fun p => (es.getD p (0, .none)).2)[i]? = some v) (fun i h => (SIt h I (.ref T) i a es.size ep ∧ h.get? a = some o) ∧ h.get? T = some { cls := .type "tuple", data := .seq (ord.map fun (p : Nat) => rawInt p).toArray }) where
  sub := fun b hb => by simp at hb; simp [hb]
  frame := fun _ _ _ st hk => ⟨⟨st.1.1.at fun o e => hk I (by simp) o e, hk a (by simp) o st.1.2⟩, hk T (by simp) _ st.2⟩
  item := fun i s Q E hi st hQ => by
    have hl : ord.length = es.size := by rw [hp.length_eq, List.length_range]
    have hx : ord[i]? = some ord[i] := List.getElem?_eq_getElem (by omega)
    have hm : ord[i] < es.size := List.mem_range.mp (hp.mem_iff.mp (List.getElem_mem (by omega)))
    generalize ord[i] = p at hx hm
    have hg : es.getD p (0, .none) = es[p] := by simp [Array.getD, hm]
    refine sit_item_tup st.1.1 st.1.2 hd ft rfl st.2 rfl (pl := p) (tk := 0) (x := es[p]) ?_ (Array.getElem?_eq_getElem hm) fun h' hit' hs' => ?_
    · simp [hx, rawInt]
    · exact hQ _ h' s.toks (by rw [List.getElem?_map, hx]; show some (es.getD p (0, .none)).2 = _; rw [hg]) ⟨⟨hit', by rw [hs'.2 a hne]; exact st.1.2⟩, by rw [hs'.2 T hnT]; exact st.2⟩ fun b o hb e => by rw [hs'.2 b (fun h => hb (by simp [h]))]; exact e
  done := fun s Q E st hQ => by
    have hl : ord.length = es.size := by rw [hp.length_eq, List.length_range]
    refine sit_end_tup hh st.1.1 st.1.2 hd ft rfl st.2 rfl (by simp [hl]) fun h' he' => hQ h' s.toks fun b o hb e => he' b o (fun h => hb (by simp [h])) e
  self := fun _ _ _ _ st hQ => sit_iter st.1.1 hQ
theorem getD_perm (es : Array (Int × Value)) {ord : List Nat} (hp : ord.Perm (List.range es.size)) : (ord.map fun p => (es.getD p (0, .none)).2).Perm (es.toList.map (·.2)) := by
  refine (hp.map _).trans ?_
  have e : (List.range es.size).map (fun p => (es.getD p (0, .none)).2) = es.toList.map (·.2) := by
    refine List.ext_getElem? fun i => ?_
    rw [List.getElem?_map, List.getElem?_map]
    by_cases h : i < es.size
    · rw [List.getElem?_range h, Array.getElem?_toList, Array.getElem?_eq_getElem h]
      simp [Array.getD, h]
    · rw [List.getElem?_eq_none (by simp; omega), List.getElem?_eq_none (by simp; omega)]; rfl
  rw [e]
theorem iter_set (hh : A.handled = none) (z : SetI prog w s.heap a o es ep t ns) {Q : Value → Shared → Prop}
    (hQ : ∀ (I : Addr) (h1 : Heap) (d : Drawn) (fp : List Addr) (xs : List Value) (St : Nat → Heap → Prop), (∀ b o, s.heap.get? b = some o → h1.get? b = some o) → s.heap.objs.size ≤ I → (∀ b ∈ fp, b = a ∨ s.heap.objs.size ≤ b) →
      Walks prog w A I fp [I] es.size (fun i v => xs[i]? = some v) St → St 0 h1 → xs.Perm (es.toList.map (·.2)) → Q (.ref I) { s with heap := h1, drawn := d }) : wpAny (model prog w) A (pyIter (.ref a)) Q E s := by
  have hT : s.TypeIs (.ref a) "set" := ⟨o, z.ho, z.hx.1⟩
  have hlt : a < s.heap.objs.size := Heap.lt_size z.ho
  refine wpAny_pyIter_slot hT F.slot_set_iter (wpAny_call_entry F.slot_set_iter hT Fs.sentry ?_ (F.args_set_iter_1 _))
  unfold Builtin.«frozenset.__iter__»
  refine wpAny_bind (m := Builtin.Frozenset.slot0 _ _) (wpAny_pure ?_)
  refine wpAny_bind (m := Builtin.Frozenset.sizeOf a) (wpAny_bind (wpAny_setEntries_of z.ho z.hd z.ft (wpAny_pure ?_)))
  refine wpAny_bind (m := setDrawn a) ?_
  unfold setDrawn setsByText
  refine wpAny_bind (wpAny_setState_of z.ho z.hd z.ft ?_)
  dsimp only
  refine wpAny_bind (wpAny_bind (wpAny_askSetting (wpAny_pure (wpAny_pure ?_))))
  show wpAny _ _ (if (!(w.params.followText "set-order") && (!t.plain && decide (es.size > 1))) = true then _ else _) _ _ _
  cases bt : w.params.followText "set-order" with
  | true =>
    rw [if_neg (by simp)]
    refine wpAny_bind (wpAny_pure ?_)
    refine wpAny_bind (wpAny_setEpoch_of z.ho z.hd z.ft ?_)
    refine wpAny_bind (wpAny_newObj_type (wpAny_pure ⟨_, rfl, "set_iterator", _, ⟨_, Heap.get?_push_size _ rfl, rfl⟩, Fs.nslot.lookup, ?_⟩))
    refine hQ s.heap.objs.size _ s.drawn [s.heap.objs.size, a] _ _ (fun b o e => Heap.get?_push_of_some _ e) (Nat.le_refl _) ?_ (walks_text hh (Nat.ne_of_lt hlt) z.hd z.ft bt) ⟨⟨_, Heap.get?_push_size _ rfl, rfl, rfl⟩, Heap.get?_push_of_some _ z.ho⟩ ?_
    · intro b hb
      rcases List.mem_cons.mp hb with rfl | hb
      · exact .inr (Nat.le_refl _)
      · exact .inl (by simpa using hb)
    · exact (pickOrder_perm _ es).map _
  | false =>
    have tk : TOk true t := by have := z.tk; unfold ledOf at this; rw [bt] at this; exact this
    by_cases hp : (!t.plain && decide (es.size > 1)) = true
    · rw [if_pos (by rw [hp]; rfl)]
      refine wpAny_bind (wpAny_drawOrder es.size (List.range es.size) s _ (List.length_range) fun ord d hp => ?_)
      have hl : ord.length = es.size := by rw [hp.length_eq, List.length_range]
      refine wpAny_bind (wpAny_newTuple ?_ (by rw [List.length_map, hl]; exact fits_of_scanBound z.sz))
      have ho' := Heap.get?_push_of_some { cls := .type "tuple", data := .seq (ord.map fun (p : Nat) => rawInt p).toArray } z.ho
      refine wpAny_bind (wpAny_setEpoch_of (s := { s with heap := _, drawn := d }) ho' z.hd z.ft ?_)
      refine wpAny_bind (wpAny_newObj_type (wpAny_pure ⟨_, rfl, "set_iterator", _, ⟨_, Heap.get?_push_size _ rfl, rfl⟩, Fs.nslot.lookup, ?_⟩))
      have hz : (s.heap.push { cls := .type "tuple", data := .seq (ord.map fun (p : Nat) => rawInt p).toArray }).objs.size = s.heap.objs.size + 1 := Heap.size_push ..
      refine hQ _ _ d [(s.heap.push { cls := .type "tuple", data := .seq (ord.map fun (p : Nat) => rawInt p).toArray }).objs.size, a, s.heap.objs.size] _ _ (fun b o e => Heap.get?_push_of_some _ (Heap.get?_push_of_some _ e)) (by rw [hz]; exact Nat.le_succ _) ?_
        (walks_drawn (T := s.heap.objs.size) hh (by rw [hz]; exact Nat.ne_of_lt (Nat.lt_succ_of_lt hlt)) (by rw [hz]; exact Nat.ne_of_lt (Nat.lt_succ_self _)) z.hd z.ft ord hp) ⟨⟨⟨_, Heap.get?_push_size _ rfl, rfl, rfl⟩, Heap.get?_push_of_some _ ho'⟩, Heap.get?_push_of_some _ (Heap.get?_push_size _ rfl)⟩ (getD_perm es hp)
      intro b hb
      rcases List.mem_cons.mp hb with rfl | hb
      · right; rw [hz]; exact Nat.le_succ _
      · rcases List.mem_cons.mp hb with rfl | hb
        · exact .inl rfl
        · right; rw [List.mem_singleton.mp hb]; exact Nat.le_refl _
    · have hp' : (!t.plain && decide (es.size > 1)) = false := Bool.eq_false_iff.mpr hp
      rw [if_neg (by rw [hp']; simp)]
      refine wpAny_bind (wpAny_pure ?_)
      refine wpAny_bind (wpAny_setEpoch_of z.ho z.hd z.ft ?_)
      refine wpAny_bind (wpAny_newObj_type (wpAny_pure ⟨_, rfl, "set_iterator", _, ⟨_, Heap.get?_push_size _ rfl, rfl⟩, Fs.nslot.lookup, ?_⟩))
      refine hQ s.heap.objs.size _ s.drawn [s.heap.objs.size, a] _ _ (fun b o e => Heap.get?_push_of_some _ e) (Nat.le_refl _) ?_ (walks_led hh (Nat.ne_of_lt hlt) z.hd z.ft bt tk hp') ⟨⟨0, ⟨_, Heap.get?_push_size _ rfl, rfl, rfl⟩, .inl ⟨rfl, rfl⟩⟩, Heap.get?_push_of_some _ z.ho⟩ (List.Perm.refl _)
      intro b hb
      rcases List.mem_cons.mp hb with rfl | hb
      · exact .inr (Nat.le_refl _)
      · exact .inl (by simpa using hb)
end
end PySem
set_option Elab.async false
set_option linter.all false
set_option maxRecDepth 100000
set_option maxHeartbeats 4000000
namespace PySem
open PySem.Calls PyProof.Rows PyProof.V PySem.Spec
structure Lft (s s' : Shared) : Prop where
  os : s'.os = s.os
  gens : s'.gens = s.gens
  keep : ∀ b o, s.heap.get? b = some o → s'.heap.get? b = some o
theorem set_len_lookup : typeLookup (.type "set") "__len__" = pure (some (.builtin "set.__len__")) := by rw [typeLookup_type, builtinLookup_eq_fast]; kernel_rfl
section
variable {prog : Program} {w : World} {A : Around} {E : Value → Shared → Prop} {s : Shared}
theorem hint_set {r : Addr} {Q : Bool → Shared → Prop} (hT : s.TypeIs (.ref r) "set") (h : Q false s) : wpAny (model prog w) A (Builtin.List.listLengthHint (.ref r)) Q E s := by
  unfold Builtin.List.listLengthHint
  refine wpAny_bind (wpAny_specialOf hT set_len_lookup ?_)
  generalize hid : ("set.__len__" : String) = id0
  wp_delta
  rw [show splitId id0 = some ("set", "__len__") from by subst hid; decide +kernel]
  subst hid
  refine wpAny_bind (wpAny_isInstance (T := "set") (b := true) hT (by rw [isSubtype_type]; kernel_rfl) ?_)
  refine wpAny_ite_split (fun hab => absurd hab (by decide)) (fun _ => ?_)
  refine wpAny_ite_split (fun _ => ?_) (fun hab => absurd (by decide +kernel) hab)
  exact wpAny_bind (wpAny_typeOf hT (wpAny_pure h))
theorem extend_set {R : Result → Shared → Prop} {a : Addr} {o : Obj} {es : Array (Int × Value)} {ep : Nat} {t : SetTable} {ns : List Int} (hh : A.handled = none) (z : SetI prog w s.heap a o es ep t ns) (S : Addr) (hSa : S ≠ a) (res : Value) (c₀ : Nat) (hS : s.heap.get? S = some { cls := .type "list", data := .seq #[] c₀ })
    (hR : ∀ s' acc' c' xs, s'.os = s.os → s'.gens = s.gens → (∀ b o, b ≠ S → s.heap.get? b = some o → s'.heap.get? b = some o) → s'.heap.get? S = some { cls := .type "list", dict := none, data := .seq acc' c', slots := #[] } → acc'.toList = xs → xs.Perm (es.toList.map (·.2)) → R (.ok (.ret res)) s') :
    wpAny (model prog w) A.in1 (Builtin.List.listExtendWith (.ref S) (.ref a) res)
      (fun fin s' => match fin with | .done f => R (.ok f) s' | .again c' => c'.quiet = true ∧ codeAny (model prog w) A c' R s') (fun e s' => R (.error e) s') s := by
  have hT : s.TypeIs (.ref a) "set" := ⟨o, z.ho, z.hx.1⟩
  have hSl := Heap.lt_size hS
  unfold Builtin.List.listExtendWith
  refine wpAny_bind (wpAny_typeOf (T := "set") hT ?_)
  have h1 : Builtin.List.listSameRef (.ref S) (.ref a) = false := by simp [Builtin.List.listSameRef, hSa]
  simp only [h1, show (Value.type "set" == Value.type "list") = false by decide, show (Value.type "set" == Value.type "tuple") = false by decide, Bool.or_false, Bool.false_eq_true, if_false]
  refine wpAny_bind (iter_set (A := A.in1) hh z fun I h1 d fp xs St hk hI hfp W st hp => ?_)
  have hSf : S ∉ fp := fun hm => by
    rcases hfp S hm with e | e
    · exact hSa e
    · exact absurd (Nat.lt_of_lt_of_le hSl e) (Nat.lt_irrefl _)
  have hS1 := hk S _ hS
  have hl : xs.length = es.size := by rw [hp.length_eq, List.length_map, Array.length_toList]
  have key : ∀ (h : Heap) (c₁ tk : Nat), St 0 h → (∀ b o, b ≠ S → s.heap.get? b = some o → h.get? b = some o) →
      h.get? S = some { cls := .type "list", data := .seq #[] c₁ } → codeAny (model prog w) A (.builtin "list.extend.loop" ⟨[.ref S, .ref I, res], []⟩) R { s with heap := h, drawn := d, toks := tk } := by
    intro h c₁ tk hst hkk hS₁
    refine codeAny_extend_loopS W.toS (fits_of_scanBound z.sz) S hSf res es.size 0 _ #[] c₁ rfl (Nat.zero_le _) hst hS₁ (ItemsOf.nil _) fun s' acc' c' hm hS' hacc => ?_
    refine hR s' acc' c' xs hm.os hm.gens (fun b o hb e => hm.heap b o (fun hmem => ?_) (hkk b o hb e)) hS' ?_ hp
    · rcases List.mem_cons.mp hmem with e' | hmem
      · exact hb e'
      · have := Heap.lt_size e
        rw [List.mem_singleton.mp hmem] at this
        exact absurd (Nat.lt_of_lt_of_le this hI) (Nat.lt_irrefl _)
    · refine List.ext_getElem? fun i => ?_
      by_cases hi : i < acc'.size
      · have := hacc.2 i acc'[i] (Array.getElem?_eq_getElem hi)
        rw [this, Array.getElem?_toList, Array.getElem?_eq_getElem hi]
      · rw [List.getElem?_eq_none (by simp; omega), List.getElem?_eq_none (by rw [hl, ← hacc.1]; omega)]
  have hT1 : Shared.TypeIs { s with heap := h1, drawn := d } (.ref a) "set" := ⟨o, hk a _ z.ho, z.hx.1⟩
  refine wpAny_bind (wpAny_holding (hint_set hT1 ?_))
  refine wpAny_ite_split (fun _ => ?_) (fun _ => wpAny_pure ⟨plainId_quiet PySem.F.plain_extend_loop _, key _ c₀ _ st (fun b o _ e => hk b o e) hS1⟩)
  refine wpAny_bind (wpAny_rule ?_)
  refine wpAny_bind ?_
  refine wpAny_bind (m := updateSeq S (·.push .none)) (wpAny_updateSeq hS1 rfl ?_)
  have hS₂ := Heap.get?_update_self (Obj.mapSeq (·.push Value.none)) hS1 rfl
  refine wpAny_updateSeq (hz := by seq_fits) hS₂ rfl ?_
  have hS₃ := Heap.get?_update_self (Obj.mapSeq (·.pop)) hS₂ rfl
  refine wpAny_pure ⟨plainId_quiet PySem.F.plain_extend_loop _, key _ _ _ ?_ (fun b o hb e => ?_) hS₃⟩
  · refine W.frame 0 _ _ st fun b hb o e => ?_
    have hbS : b ≠ S := fun h => hSf (h ▸ hb)
    exact (Heap.get?_update_other _ _ (Ne.symm hbS)).trans ((Heap.get?_update_other _ _ (Ne.symm hbS)).trans e)
  · exact (Heap.get?_update_other _ _ (Ne.symm hb)).trans ((Heap.get?_update_other _ _ (Ne.symm hb)).trans (hk b o e))
theorem collect_set {R : List Value → Shared → Prop} {a : Addr} {o : Obj} {es : Array (Int × Value)} {ep : Nat} {t : SetTable} {ns : List Int} (hh : A.handled = none) (z : SetI prog w s.heap a o es ep t ns)
    (h : ∀ s' xs, Lft s s' → xs.Perm (es.toList.map (·.2)) → R xs s') : wpAny (model prog w) A (collect (.ref a)) R E s := by
  have hlt := Heap.lt_size z.ho
  unfold collect
  refine wpAny_bind (wpAny_runValue (codeAny_builtin entry_proto_collect' ?_))
  rw [Around.under_plainId PySem.F.plain_proto_collect _]
  refine wpAny_bind (m := newList []) (wpAny_newObj_type ?_)
  refine wpAny_pure ⟨plainId_quiet PySem.F.plain_list_iadd _, codeAny_builtin entry_list_iadd' ?_⟩
  rw [Around.under_plainId PySem.F.plain_list_iadd _]
  have hS₁ : (s.heap.push { cls := .type "list", data := .seq ([] : List Value).toArray }).get? s.heap.objs.size = some { cls := .type "list", data := .seq #[] } := Heap.get?_push_size _ rfl
  have z1 : SetI prog w (s.heap.push { cls := .type "list", data := .seq ([] : List Value).toArray }) a o es ep t ns := ⟨Heap.get?_push_of_some _ z.ho, z.hx, z.hd, z.el, z.pm, z.sz, z.ft, z.tk⟩
  have key := extend_set (A := A) (s := { s with heap := s.heap.push { cls := .type "list", data := .seq ([] : List Value).toArray } })
    (R := fun (q : Result) (s' : Shared) => ∃ (acc' : Array Value) (c' : Nat), q = .ok (.ret (.ref s.heap.objs.size)) ∧ Lft s s' ∧
      s'.heap.get? s.heap.objs.size = some { cls := .type "list", dict := none, data := .seq acc' c', slots := #[] } ∧ acc'.toList.Perm (es.toList.map (·.2)))
    hh z1 s.heap.objs.size (Nat.ne_of_gt hlt) (.ref s.heap.objs.size) 0 hS₁
    (fun s' acc' c' xs e1 e2 hk hS' ex hp => ⟨acc', c', rfl, ⟨e1, e2, fun b o e => hk b o (Nat.ne_of_lt (Heap.lt_size e)) (Heap.get?_push_of_some _ e)⟩, hS', by rw [ex]; exact hp⟩)
  refine wpAny_mono key (fun fin s' x => ?_) fun e s' x => ?_
  · cases fin with
    | done f =>
      obtain ⟨acc', c', e, hl, hS', hacc⟩ := x
      cases e
      refine wpAny_bind (m := load s.heap.objs.size) (wpAny_load hS' ?_)
      exact wpAny_pure (h s' _ hl hacc)
    | again c₁ =>
      refine ⟨x.1, codeAny_mono x.2 fun q s₂ y => ?_⟩
      obtain ⟨acc', c', rfl, hl, hS', hacc⟩ := y
      refine wpAny_bind (m := load s.heap.objs.size) (wpAny_load hS' ?_)
      exact wpAny_pure (h s₂ _ hl hacc)
  · obtain ⟨_, _, e', _⟩ := x
    cases e'
theorem sorted_from {r : Addr} {ns : List Int} {Q : Value → Shared → Prop} (h64 : ns.length < 64)
    (hc : ∀ (A : Around) (E : Value → Shared → Prop) (R : List Value → Shared → Prop), A.handled = none → (∀ s' xs ms, Lft s s' → IntsAre xs ms → ms.Perm ns → R xs s') → wpAny (model prog w) A (collect (.ref r)) R E s) (hh : A.handled = none)
    (h : ∀ (s1 : Shared) (h' : Heap) (out : Array Value) (ms : List Int) (e : Nat), Lft s s1 → (∀ b o, s1.heap.get? b = some o → h'.get? b = some o) → h'.get? s1.heap.objs.size = some (seqObj "list" out e) → IntsAre out.toList ms → ms.Perm ns → ms.Pairwise (· ≤ ·) → Q (.ref s1.heap.objs.size) { s1 with heap := h' }) :
    wpAny (model prog w) A (call (.builtin "sorted") [.ref r]) Q E s := by
  refine Calls.call_function_entry kind_sorted plain_sorted entry_sorted (args_sorted1 _) ?_
  unfold Builtin.«sorted»
  refine wpAny_bind (m := checkCount "sorted" 1 1 _) (wpAny_pure ?_)
  refine wpAny_bind (hc _ _ _ hh fun s1 xs ms l1 hi hp => ?_)
  have hx : xs.length = ns.length := by rw [hi.length, hp.length_eq]
  refine wpAny_bind (wpAny_newList ?_ (by rw [hx, sizeLine_eq]; omega))
  have hoL : (s1.heap.push (seqObj "list" xs.toArray 0)).get? s1.heap.objs.size = some (seqObj "list" xs.toArray 0) := Heap.get?_push_size _ rfl
  have hT : Shared.TypeIs { s1 with heap := s1.heap.push (seqObj "list" xs.toArray 0) } (.ref s1.heap.objs.size) "list" := ⟨_, hoL, rfl⟩
  refine wpAny_bind (wpAny_holding (wpAny_call_entry slot_list_sort hT entry_list_sort (list_sort_tree hoL hi (by rw [hx]; exact h64) fun out ms' a1 a2 a3 => ⟨_, rfl, wpAny_pure ⟨_, rfl, ?_⟩⟩) (args_list_sort _)))
  obtain ⟨ep, he⟩ := sortedHeap_at (vs := xs) (out := out) hoL
  refine h s1 _ out ms' ep l1 (fun b o e => ?_) he a1 (a2.trans hp) a3
  have e2 := Heap.get?_push_of_some (seqObj "list" xs.toArray 0) e
  exact (sortedHeap_old (Nat.ne_of_lt (Heap.lt_size e)) (Heap.lt_size e2)).trans e2
theorem sorted_set {a : Addr} {ns : List Int} {Q : Value → Shared → Prop} (h64 : ns.length < 64) (hS : HasSet prog w s.heap a ns) (hh : A.handled = none)
    (h : ∀ (s1 : Shared) (h' : Heap) (out : Array Value) (ms : List Int) (e : Nat), Lft s s1 → (∀ b o, s1.heap.get? b = some o → h'.get? b = some o) → h'.get? s1.heap.objs.size = some (seqObj "list" out e) → IntsAre out.toList ms → ms.Perm ns → ms.Pairwise (· ≤ ·) → Q (.ref s1.heap.objs.size) { s1 with heap := h' }) :
    wpAny (model prog w) A (call (.builtin "sorted") [.ref a]) Q E s := by
  obtain ⟨o, es, ep, t, z⟩ := hS
  refine sorted_from h64 (fun A E R hh hR => collect_set hh z fun s' xs l hp => ?_) hh h
  have hint : ∀ v ∈ es.toList.map (·.2), ∃ k t, v = Value.int k t := fun v hv => by
    obtain ⟨e, he, rfl⟩ := List.mem_map.mp hv
    obtain ⟨⟨k, hk, _⟩, _⟩ := z.el e he
    obtain ⟨t, et⟩ := is_int.mp hk
    exact ⟨k, t, et⟩
  have hia : ∀ xs : List Value, (∀ v ∈ xs, ∃ k t, v = Value.int k t) → IntsAre xs (xs.map vInt) := by
    intro xs
    induction xs with
    | nil => intro _; exact .nil
    | cons v r ih =>
      intro hv
      obtain ⟨k, t, rfl⟩ := hv v (List.mem_cons_self ..)
      exact .cons k t (ih fun v' hv' => hv v' (List.mem_cons_of_mem _ hv'))
  refine hR s' xs _ l (hia xs fun v hv => hint v (hp.mem_iff.mp hv)) ?_
  refine (hp.map vInt).trans ?_
  rw [List.map_map]
  exact z.pm
end
end PySem
namespace L2
open PySem PySem.Spec PyProof.Rows
theorem Inv.lft {X : Cx} {pins : List (Addr × Obj)} {σ : St} {H : Hp} {s s' : Shared} (I : Inv X pins σ H s) (l : Lft s s') : Inv X pins σ H s' := by
  have J : Inv X pins σ H { s with heap := s'.heap, toks := s'.toks } := I.kept l.keep
  exact ⟨J.ok, l.os.trans I.os, by rw [l.gens]; exact I.bare, J.base, J.loc, J.cell, J.free, J.freeC, J.pin, J.hok, J.len⟩
theorem ris_of {ms ns : List Int} (hp : ms.Perm ns) (hn : ns.Nodup) (hs : ms.Pairwise (· ≤ ·)) : ms.Pairwise (· < ·) := by
  have hd : ms.Pairwise (· ≠ ·) := hp.nodup_iff.mpr hn
  exact (hs.and hd).imp fun h => by have := h.1; have := h.2; omega
def tSortSet (K : PySem.W.Frag) (ta : TA) : TE := fun σ H Q => ta σ H fun vs H1 => ∃ (a : Addr) (ns : List Int), vs = [.ref a] ∧ SqL K H1 a (ns.map V.int) ∧ ns.length < 64 ∧
  ∀ (ms : List Int) (p : Addr), ms.Pairwise (· < ·) → (∀ x, x ∈ ms ↔ x ∈ ns) → ms.length ≤ ns.length → H1 p = none → Q (.ref p) (upd H1 p (.lst (ms.map V.int)))
theorem ints_at : ∀ {ns : List Int} {us : List Value}, Vals (ns.map V.int) us → ∀ (i : Nat) (v : Value), us[i]? = some v → ∃ x t, ns[i]? = some x ∧ v = .int x t
  | [], _, .nil, i, v, h => by simp at h
  | x :: r, _, .cons rx rr, 0, v, h => by
    obtain ⟨t, e⟩ := (show ∃ t, _ = Value.int x t from rx)
    simp at h
    exact ⟨x, t, rfl, by rw [← h, e]⟩
  | x :: r, _, .cons rx rr, i + 1, v, h => by
    obtain ⟨y, t, e1, e2⟩ := ints_at rr i v (by simpa using h)
    exact ⟨y, t, by simpa using e1, e2⟩
theorem q_pe_sortset {X : Cx} {e : Expr} {ta : TA} {p p2 pos pos2 : Pos} (hc : X.calm = true) (hg : Gl X "set") (hm : X.mg "set" = none) (hg2 : Gl X "sorted") (hm2 : X.mg "sorted" = none) (ha : QA X [e] ta)
    (hs : starEach [e] X.env = [(false, eval e X.env)] := by rfl) : QE X (.Call (.Name "sorted" p2) [.Call (.Name "set" p) [e] [] pos] [] pos2) (tSortSet X.K ta) := by
  refine ⟨?_⟩
  intro pins s σ H Q I h
  refine wpAny_Call_Name_kw (ld_blt I hg2 hm2 (show bootBuiltins "sorted" = some (.builtin "sorted") by decide +kernel) ?_)
  refine PyProof.Rows.callWith_builtin1 ?_ Ck.star_Call rfl
  rw [Ck.star_Call]
  refine Calls.spliced_cons ?_
  refine Call_ (ld_blt I hg hm (show bootBuiltins "set" = some (.type "set") by decide +kernel) (PyProof.Rows.callWith_type1 (thn (ha.h pos pins s σ H _ I h) fun us s1 ⟨vs, H1, I1, r1, q1⟩ => ?_) hs rfl))
  obtain ⟨a, ns, e, hq, hb, q⟩ := q1
  subst e
  cases r1 with
  | cons r rr =>
    cases rr
    cases r
    obtain ⟨its, rv, p', hz⟩ := I1.list hq
    have hl := rv.length
    rw [List.length_map] at hl
    refine call_set_ints (I1.ok.hd hc) p'.isList (ns := ns) (by rw [List.size_toArray]; exact hl.symm) (fun i v hv => ints_at rv i v (by simpa using hv)) (by unfold scanBound; omega) fun h' tk ⟨hS, kp⟩ => Calls.spliced_nil ?_
    have I2 : Inv X pins σ H1 { s1 with heap := h', toks := tk } := I1.kept (t' := tk) fun b o e => kp b o (Heap.lt_size e) e
    have hul := unl_len ns
    refine sorted_set (s := { s1 with heap := h', toks := tk }) (by omega) hS (I1.ok.hd hc) fun s2 h2 out ms ep l2 k2 he hi hp hle => ?_
    have I3 := I2.lft l2
    have hlen : (ms.map V.int).length ≤ sizeLine := by rw [List.length_map, hp.length_eq]; exact small64 (by omega)
    refine ⟨.ref _, upd H1 s2.heap.objs.size (.lst (ms.map V.int)), I3.laid (t' := s2.toks) k2 (Nat.le_refl _) ⟨hlen, out.toList, ep, vals_of_ints hi, he⟩, rfl, q ms _ (ris_of hp (unl_nodup ns) hle) (fun x => ?_) (by rw [hp.length_eq]; exact hul) (I3.hok.fresh (Nat.le_refl _))⟩
    rw [hp.mem_iff, mem_unl]
def rSortedD : List V → Hp → VK → Prop := fun vs H Q => ∃ (a : Addr) (kvs : List (Key × V)) (ds : List Int), vs = [V.ref a] ∧ H a = some (.dK kvs) ∧ kvs.map (·.1) = ds.map Sum.inl ∧ kvs.length < 64 ∧
  ∀ (ms : List Int) (p : Addr), ms.Pairwise (· < ·) → (∀ x, x ∈ ms ↔ x ∈ ds) → ms.length ≤ ds.length → H p = none → Q (.ref p) (upd H p (.lst (ms.map V.int)))
theorem cr_sortedD {X : Cx} (hc : X.calm = true) : CallR X (.builtin "sorted") rSortedD := by
  intro pins s σ H vs us Q I r h
  obtain ⟨a, kvs, ds, rfl, ha, hds, h64, q⟩ := h
  rw [Vals.ref1 r]
  obtain ⟨hz, hsys, vs, kv, o, es, ep, ho, hx, hd, hk, hp, hn⟩ := (show ObjOk X.prog X.w H s.heap a (.dK kvs) from I.hok a _ ha)
  have hl : kvs.length = vs.length := Paired.length kv
  have hda : s.heap.DictAt (mixKind X.prog X.w) a vs ep := ⟨o, es, ho, hx, hd, hk, hp, hn⟩
  have hks : ∀ {kvs : List (Key × V)} {vs : List (Key × Value)}, KV kvs vs → kvs.map (·.1) = vs.map (·.1) := by
    intro kvs vs kv
    induction kv with
    | nil => rfl
    | cons h _ ih => rw [List.map_cons, List.map_cons, ih, h.1]
  have ek := hks kv
  rw [hds] at ek
  have hnd : ds.Nodup := by
    rw [← ek] at hn
    exact List.Pairwise.imp (fun h e => h (by rw [e])) (List.pairwise_map.mp hn)
  have hdl : ds.length = kvs.length := by have := congrArg List.length hds; simpa using this.symm
  refine sorted_from (ns := ds) (by omega) (fun A E R hh hR => PySem.W.kdu_collect (PySem.W.kdl_dict (kvs := vs) (ep := ep) (knd := mixKind X.prog X.w) hsys) hh hda (by omega) fun h' tk acc kp hit => ?_) (I.ok.hd hc) fun s2 h2 out ms ep l2 k2 he hi hpm hle => ?_
  · have hall : ∀ j v, acc[j]? = some v → ∃ k t, ds[j]? = some k ∧ v = Value.int k t := fun j v e => by
      obtain ⟨k, x, hkx, his⟩ := hit.2 j v e
      have e2 := congrArg (fun l => l[j]?) ek
      rw [List.getElem?_map, List.getElem?_map, hkx] at e2
      cases e3 : ds[j]? with
      | none => rw [e3] at e2; cases e2
      | some d =>
        rw [e3] at e2
        have e4 : k = Sum.inl d := by simpa using e2.symm
        subst e4
        rcases keyIs_shape (show keyIs (Sum.inl d) v = true from his) with ⟨i, t, ei, hv⟩ | ⟨y, t, ei, hv⟩
        · cases ei; exact ⟨_, t, e3, hv⟩
        · cases ei
    have hia : ∀ (xs : List Value) (ds : List Int), xs.length = ds.length → (∀ (j : Nat) (v : Value), xs[j]? = some v → ∃ k t, ds[j]? = some k ∧ v = Value.int k t) → IntsAre xs ds := by
      intro xs
      induction xs with
      | nil => intro ds e _; cases ds with
        | nil => exact .nil
        | cons _ _ => cases e
      | cons v r ih =>
        intro ds e hv
        cases ds with
        | nil => cases e
        | cons d ds =>
          obtain ⟨k, t, e1, e2⟩ := hv 0 v rfl
          cases e1
          rw [e2]
          exact .cons d t (ih ds (by simpa using e) fun j v' hj => hv (j + 1) v' (by simpa using hj))
    refine hR _ _ ds ⟨rfl, rfl, kp⟩ (hia _ _ (by rw [Array.length_toList, hit.1]; omega) fun j v e => hall j v (by rw [← Array.getElem?_toList]; exact e)) (List.Perm.refl _)
  · have I3 := I.lft l2
    have hlen : (ms.map V.int).length ≤ sizeLine := by rw [List.length_map, hpm.length_eq]; exact small64 (by omega)
    exact ⟨.ref _, upd H s2.heap.objs.size (.lst (ms.map V.int)), I3.laid (t' := s2.toks) k2 (Nat.le_refl _) ⟨hlen, out.toList, ep, vals_of_ints hi, he⟩, rfl, q ms _ (ris_of hpm hnd hle) (fun x => hpm.mem_iff) (Nat.le_of_eq hpm.length_eq) (I3.hok.fresh (Nat.le_refl _))⟩
end L2
set_option Elab.async false
set_option linter.all false
set_option maxRecDepth 100000
set_option maxHeartbeats 4000000
namespace Ck
open PySem L2
structure TA {α : Type} (f : α → List V) (H : Hp) (rs : List Addr) (xs : List α) : Prop where
  len : rs.length = xs.length
  at_ : ∀ (i : Nat) (r : Addr), rs[i]? = some r → ∃ u, xs[i]? = some u ∧ H r = some (.tup (f u))
section
variable {α : Type} {f : α → List V} {H H' : Hp} {rs : List Addr} {xs : List α}
theorem TA.mono (u : TA f H rs xs) (t : Tups H H') : TA f H' rs xs := ⟨u.len, fun i r h => let ⟨x, hx, e⟩ := u.at_ i r h; ⟨x, hx, t _ _ e⟩⟩
theorem TA.nil (f : α → List V) (H : Hp) : TA f H [] [] := ⟨rfl, fun i r h => by simp at h⟩
theorem TA.snoc {r : Addr} {x : α} (u : TA f H rs xs) (h : H r = some (.tup (f x))) : TA f H (rs ++ [r]) (xs ++ [x]) := by
  refine ⟨by rw [List.length_append, List.length_append, u.len]; rfl, fun i q hq => ?_⟩
  rw [List.getElem?_append] at hq ⊢
  by_cases hi : i < rs.length
  · rw [if_pos hi] at hq
    rw [if_pos (by rw [← u.len]; exact hi)]
    exact u.at_ i q hq
  · rw [if_neg hi] at hq
    rw [if_neg (by rw [← u.len]; exact hi), ← u.len]
    have e : i - rs.length = 0 := by
      have := (List.getElem?_eq_some_iff.mp hq).1
      simp at this; omega
    rw [e] at hq ⊢
    cases hq
    exact ⟨_, rfl, h⟩
theorem TA.dp {K : PySem.W.Frag} {g : α → PyData} (hg : ∀ (x : α) (p : Addr), H p = some (.tup (f x)) → Dp K H (.ref p) (g x)) : ∀ {rs : List Addr} {xs : List α}, TA f H rs xs → DpAll K H (rs.map V.ref) (xs.map g)
  | [], [], _ => .nil
  | [], _ :: _, u => by have := u.len; cases this
  | _ :: _, [], u => by have := u.len; cases this
  | r :: rs, x :: xs, u => by
    obtain ⟨y, hy, e⟩ := u.at_ 0 r rfl
    cases hy
    exact .cons (hg _ _ e) (TA.dp hg ⟨by simpa using u.len, fun i q hq => u.at_ (i + 1) q (by simpa using hq)⟩)
end
abbrev prV (u : Int × Int) : List V := [.int u.1, .int u.2]
def prD (u : Int × Int) : PyData := .tuple [.int u.1, .int u.2]
theorem dp_pr {K : PySem.W.Frag} {H : Hp} (x : Int × Int) (p : Addr) (h : H p = some (.tup (prV x))) : Dp K H (.ref p) (prD x) := .tup (SqT.of h) (.cons (.int _) (.cons (.int _) .nil))
theorem lay_prs : ∀ ps : List (Int × Int), PyData.canLayAll0 (ps.map prD) = true
  | [] => rfl
  | u :: r => by
    rw [List.map_cons]
    simp only [PyData.canLayAll0, prD, PyData.canLay0, lay_prs r, Bool.and_true]
theorem depth_prs : ∀ ps : List (Int × Int), PyData.depthAll (ps.map prD) ≤ 2
  | [] => by decide
  | u :: r => by
    have := depth_prs r
    rw [List.map_cons]
    simp only [PyData.depthAll, prD, PyData.depth]
    omega
def LPrs (H : Hp) (L : Addr) (ps : List (Int × Int)) : Prop := ∃ rs : List Addr, H L = some (.lst (rs.map V.ref)) ∧ TA prV H rs ps
theorem LPrs.same {H H' : Hp} {L : Addr} {ps : List (Int × Int)} (c : LPrs H L ps) (s : Same H H') : LPrs H' L ps := let ⟨rs, h, r⟩ := c; ⟨rs, s _ _ h, r.mono (.same s)⟩
theorem LPrs.dp {K : PySem.W.Frag} {H : Hp} {L : Addr} {ps : List (Int × Int)} (c : LPrs H L ps) : Dp K H (.ref L) (.list (ps.map prD)) := let ⟨rs, h, r⟩ := c; .lst (SqL.of h) (TA.dp dp_pr r)
theorem LPrs.push {H : Hp} {L p : Addr} {rs : List Addr} {ps : List (Int × Int)} {u : Int × Int} (h : H L = some (.lst (rs.map V.ref))) (ra : TA prV H rs ps) (hp : H p = some (.tup (prV u))) : LPrs (upd H L (.lst (rs.map V.ref ++ [V.ref p]))) L (ps ++ [u]) := by
  have t := Tups.upd (o := .lst (rs.map V.ref ++ [V.ref p])) h
  exact ⟨rs ++ [p], by rw [upd_same, List.map_append]; rfl, (ra.mono t).snoc (t _ _ hp)⟩
def stp (w : Int → Int) (acc : List (Int × Int) × Int) (d : Int) : List (Int × Int) × Int := (if w d ≠ acc.2 then acc.1 ++ [(d, w d)] else acc.1, w d)
def tnOf (w : Int → Int) (ds : List Int) : List (Int × Int) × Int := ds.foldl (stp w) ([], 0)
theorem tnOf_succ (w : Int → Int) {ds : List Int} {i : Nat} {d : Int} (h : ds[i]? = some d) : tnOf w (ds.take (i + 1)) = stp w (tnOf w (ds.take i)) d := by
  unfold tnOf
  rw [List.take_succ, h, List.foldl_append]; rfl
theorem tn_len (w : Int → Int) : ∀ (ds : List Int) (acc : List (Int × Int) × Int), (ds.foldl (stp w) acc).1.length ≤ acc.1.length + ds.length
  | [], acc => by simp
  | d :: r, acc => by
    have := tn_len w r (stp w acc d)
    have h : (stp w acc d).1.length ≤ acc.1.length + 1 := by
      unfold stp; dsimp only; split
      · rw [List.length_append]; simp
      · omega
    rw [List.foldl_cons, List.length_cons]; omega
theorem tnOf_len (w : Int → Int) (ds : List Int) : (tnOf w ds).1.length ≤ ds.length := by have := tn_len w ds ([], 0); simpa [tnOf] using this
abbrev wdOf (rows : List CRow) (t k : Str) (d : Int) : Int := (lastFor rows t k d).getD 0
def IsTurns (rows : List CRow) (t k : Str) (ps : List (Int × Int)) : Prop := ∃ ms : List Int, ms.Pairwise (· < ·) ∧ (∀ x, x ∈ ms ↔ (lastFor rows t k x).isSome = true) ∧ ps = (tnOf (wdOf rows t k) ms).1
theorem ris_unique : ∀ {ms ns : List Int}, ms.Pairwise (· < ·) → ns.Pairwise (· < ·) → (∀ x, x ∈ ms ↔ x ∈ ns) → ms = ns
  | [], [], _, _, _ => rfl
  | [], b :: _, _, _, h => absurd ((h b).mpr (List.mem_cons_self ..)) (by simp)
  | a :: _, [], _, _, h => absurd ((h a).mp (List.mem_cons_self ..)) (by simp)
  | a :: r, b :: q, hm, hn, h => by
    obtain ⟨m1, m2⟩ := List.pairwise_cons.mp hm
    obtain ⟨n1, n2⟩ := List.pairwise_cons.mp hn
    have e : a = b := by
      rcases List.mem_cons.mp ((h a).mp (List.mem_cons_self ..)) with e | e
      · exact e
      · rcases List.mem_cons.mp ((h b).mpr (List.mem_cons_self ..)) with e' | e'
        · exact e'.symm
        · have := n1 a e
          have := m1 b e'
          omega
    subst e
    have t : r = q := ris_unique m2 n2 fun x => by
      constructor
      · intro hx
        rcases List.mem_cons.mp ((h x).mp (List.mem_cons_of_mem _ hx)) with e | e
        · have := m1 x hx; omega
        · exact e
      · intro hx
        rcases List.mem_cons.mp ((h x).mpr (List.mem_cons_of_mem _ hx)) with e | e
        · have := n1 x hx; omega
        · exact e
    rw [t]
theorem IsTurns.unique {rows : List CRow} {t k : Str} {ps ps' : List (Int × Int)} (h : IsTurns rows t k ps) (h' : IsTurns rows t k ps') : ps = ps' := by
  obtain ⟨ms, a, b, rfl⟩ := h
  obtain ⟨ns, c, d, rfl⟩ := h'
  have : ms = ns := ris_unique a c fun x => (b x).trans (d x).symm
  rw [this]
theorem worth_told {rows : List CRow} {t k : Str} {d r : Int} (h : IsWorth rows t k d r) (hs : (lastFor rows t k d).isSome = true) : r = wdOf rows t k d := by
  obtain ⟨v, hv⟩ := Option.isSome_iff_exists.mp hs
  have : IsWorth rows t k d v := .inl ⟨d, Int.le_refl _, hv, fun d' l _ => l⟩
  rw [h.unique this]
  unfold wdOf
  rw [hv]; rfl
theorem DOf.keys {kvs : List (Key × V)} {rows : List CRow} {t k : Str} (D : DOf kvs rows t k) : ∃ ds : List Int, kvs.map (·.1) = ds.map Sum.inl ∧ ∀ x, x ∈ ds ↔ (lastFor rows t k x).isSome = true := by
  have e : kvs.map (·.1) = (kvs.map dayOf).map Sum.inl := by
    rw [List.map_map]
    refine List.map_congr_left fun p hp => ?_
    obtain ⟨d, hd⟩ := D.ks p hp
    obtain ⟨a, b⟩ := p
    cases hd
    rfl
  refine ⟨kvs.map dayOf, e, fun x => ?_⟩
  have z : (valV kvs (.inl x)).isSome = (lastFor rows t k x).isSome := by rw [D.vs, Option.isSome_map]
  rw [← z]
  constructor
  · intro hx
    obtain ⟨p, hp, rfl⟩ := List.mem_map.mp hx
    obtain ⟨d, hd⟩ := D.ks p hp
    have := mem_valV hp
    obtain ⟨a, b⟩ := p
    cases hd
    exact this
  · intro hs
    obtain ⟨v, hv⟩ := Option.isSome_iff_exists.mp hs
    obtain ⟨p, hp, e'⟩ := valV_mem hv
    refine List.mem_map.mpr ⟨p, hp, ?_⟩
    obtain ⟨a, b⟩ := p
    cases e'
    rfl
theorem DOf.at {kvs : List (Key × V)} {rows : List CRow} {t k : Str} (D : DOf kvs rows t k) {x : Int} (h : (lastFor rows t k x).isSome = true) : valV kvs (.inl x) = some (.int (wdOf rows t k x)) := by
  obtain ⟨v, hv⟩ := Option.isSome_iff_exists.mp h
  rw [D.vs, hv]
  unfold wdOf
  rw [hv]; rfl
end Ck
set_option Elab.async false
set_option linter.all false
set_option maxRecDepth 100000
set_option maxHeartbeats 4000000
namespace Ck
open PySem L2
def Lts (x : Str) : Prop := ∀ c ∈ x.cps.toList, c ∈ letters.cps.toList
theorem Lts.app {x y : Str} (hx : Lts x) (hy : Lts y) : Lts (x ++ y) := fun c hc => by
  rw [tl_app] at hc
  exact (List.mem_append.mp hc).elim (hx c) (hy c)
theorem Lts.sub {x y : Str} (hx : Lts x) (h : ∀ c ∈ y.cps.toList, c ∈ x.cps.toList) : Lts y := fun c hc => hx c (h c hc)
theorem Lts.sgn {c : Nat} (h : c ∈ letters.cps.toList) : Lts (sgn c) := fun b hb => by
  rw [show b = c by simpa using hb]; exact h
end Ck
set_option Elab.async false
set_option linter.all false
set_option maxRecDepth 100000
set_option maxHeartbeats 4000000
namespace L2
open PySem PySem.Spec PyProof.Rows Builtin
end L2
namespace Ck
open PySem L2
def Keep2 (d e : Addr) (H H' : Hp) : Prop := ∀ b o, H b = some o → b ≠ d → b ≠ e → H' b = some o
theorem Keep2.of {d e : Addr} {H H' : Hp} (k : Keep d H H') : Keep2 d e H H' := fun b o h n _ => k b o h n
theorem Keep2.trans {d e : Addr} {H H1 H2 : Hp} (a : Keep2 d e H H1) (b : Keep2 d e H1 H2) : Keep2 d e H H2 := fun c o h n m => b c o (a c o h n m) n m
theorem Keep2.new {d e : Addr} {H H' : Hp} (k : Keep2 d e H H') (h : H e = none) : Keep d H H' := fun b o hb n => k b o hb n (ne_of_none hb h)
end Ck
set_option Elab.async false
set_option linter.all false
set_option maxRecDepth 100000
set_option maxHeartbeats 4000000
namespace L2
open PySem PySem.Spec PyProof.Rows
end L2
set_option Elab.async false
set_option linter.all false
set_option maxRecDepth 100000
set_option maxHeartbeats 4000000
namespace Ck
open PySem PySem.Spec PyProof.Rows L2
section
variable {P : Program} {w : World} {K : PySem.W.Frag} {mg : Str → Option Value} {base : Heap} {k : Nat} {f : Addr} {fd : FuncData} {ps : List Str}
theorem lift1 {sp : Sp} (F : FnOk P w K mg base CX0 k f fd ps sp) : FnOk P w K mg base (CX1 P w) k f fd ps sp :=
  ⟨F.len, fun A outer s H args us vs Q E hr he hb hv hs => codeAny_mono (F.run A outer s H args us vs Q E hr he hb hv hs) fun r s' hq => by
    match r, hq with
    | .ok (.ret u), hq => exact hq
    | .error e, hq => exact hq.elim⟩
theorem or1 {CX : CXT} {sp sp' : Sp} (F : FnOk P w K mg base CX k f fd ps sp) (G : FnOk P w K mg base CX k f fd ps sp') : FnOk P w K mg base CX k f fd ps (fun vs H Q E => sp vs H Q E ∨ sp' vs H Q E) :=
  ⟨fun vs H Q E h => h.elim (F.len vs H Q E) (G.len vs H Q E), fun A outer s H args us vs Q E hr he hb hv hs => hs.elim (F.run A outer s H args us vs Q E hr he hb hv) (G.run A outer s H args us vs Q E hr he hb hv)⟩
end
end Ck
set_option Elab.async false
set_option linter.all false
set_option maxRecDepth 100000
set_option maxHeartbeats 4000000
namespace Ck
open PySem L2
def top (i : Nat) : Stmt := PySem.Challenge.pw_callcoin_k18_refused_questions.main.body.getD i (.Pass ⟨0, 0, 0, 0⟩)
abbrev s_is_made_of : Stmt := top 14
theorem sc_is_made_of : FnScope ["text", "signs", "sign"] ["text", "signs"] (defScope s_is_made_of) := ⟨rfl, rfl, rfl, by decide +kernel, rfl, by decide +kernel, by decide +kernel⟩
abbrev s_is_word : Stmt := top 15
theorem sc_is_word : FnScope ["text"] ["text"] (defScope s_is_word) := ⟨rfl, rfl, rfl, by decide +kernel, rfl, by decide +kernel, by decide +kernel⟩
abbrev s_is_name : Stmt := top 16
theorem sc_is_name : FnScope ["text"] ["text"] (defScope s_is_name) := ⟨rfl, rfl, rfl, by decide +kernel, rfl, by decide +kernel, by decide +kernel⟩
abbrev s_is_number : Stmt := top 17
theorem sc_is_number : FnScope ["number"] ["number"] (defScope s_is_number) := ⟨rfl, rfl, rfl, by decide +kernel, rfl, by decide +kernel, by decide +kernel⟩
abbrev s_is_within : Stmt := top 18
theorem sc_is_within : FnScope ["number", "least", "most"] ["number", "least", "most"] (defScope s_is_within) := ⟨rfl, rfl, rfl, by decide +kernel, rfl, by decide +kernel, by decide +kernel⟩
abbrev s_is_day : Stmt := top 19
theorem sc_is_day : FnScope ["number"] ["number"] (defScope s_is_day) := ⟨rfl, rfl, rfl, by decide +kernel, rfl, by decide +kernel, by decide +kernel⟩
abbrev s_is_worth : Stmt := top 20
theorem sc_is_worth : FnScope ["number"] ["number"] (defScope s_is_worth) := ⟨rfl, rfl, rfl, by decide +kernel, rfl, by decide +kernel, by decide +kernel⟩
abbrev s_check_name : Stmt := top 22
theorem sc_check_name : FnScope ["text"] ["text"] (defScope s_check_name) := ⟨rfl, rfl, rfl, by decide +kernel, rfl, by decide +kernel, by decide +kernel⟩
abbrev s_check_day : Stmt := top 23
theorem sc_check_day : FnScope ["number"] ["number"] (defScope s_check_day) := ⟨rfl, rfl, rfl, by decide +kernel, rfl, by decide +kernel, by decide +kernel⟩
abbrev s_check_worth : Stmt := top 24
theorem sc_check_worth : FnScope ["number"] ["number"] (defScope s_check_worth) := ⟨rfl, rfl, rfl, by decide +kernel, rfl, by decide +kernel, by decide +kernel⟩
abbrev s_Calls_init : Stmt := inClass (top 27) 0
theorem sc_Calls_init : FnScope ["self"] ["self"] (defScope s_Calls_init) := ⟨rfl, rfl, rfl, by decide +kernel, rfl, by decide +kernel, by decide +kernel⟩
abbrev s_Calls_len : Stmt := inClass (top 27) 1
abbrev s_Calls_tell : Stmt := inClass (top 27) 2
theorem sc_Calls_tell : FnScope ["self", "town", "kind", "day", "worth"] ["self", "town", "kind", "day", "worth"] (defScope s_Calls_tell) := ⟨rfl, rfl, rfl, by decide +kernel, rfl, by decide +kernel, by decide +kernel⟩
abbrev s_Calls_worth : Stmt := inClass (top 27) 3
theorem sc_Calls_worth : FnScope ["self", "town", "kind", "day", "known", "worths", "told_days", "told"] ["self", "town", "kind", "day", "known"] (defScope s_Calls_worth) := ⟨rfl, rfl, rfl, by decide +kernel, rfl, by decide +kernel, by decide +kernel⟩
abbrev s_Calls_turns : Stmt := inClass (top 27) 4
theorem sc_Calls_turns : FnScope ["self", "town", "kind", "known", "worths", "turns", "ahead", "day"] ["self", "town", "kind", "known"] (defScope s_Calls_turns) := ⟨rfl, rfl, rfl, by decide +kernel, rfl, by decide +kernel, by decide +kernel⟩
abbrev s_Calls_tellings : Stmt := inClass (top 27) 5
theorem sc_Calls_tellings : FnScope ["self", "known"] ["self", "known"] (defScope s_Calls_tellings) := ⟨rfl, rfl, rfl, by decide +kernel, rfl, by decide +kernel, by decide +kernel⟩
abbrev s_Calls_worths_by_day : Stmt := inClass (top 27) 6
theorem sc_Calls_worths_by_day : FnScope ["self", "town", "kind", "known", "worths", "told_town", "told_kind", "day", "worth"] ["self", "town", "kind", "known"] (defScope s_Calls_worths_by_day) := ⟨rfl, rfl, rfl, by decide +kernel, rfl, by decide +kernel, by decide +kernel⟩
abbrev s_l_mixed : Stmt := top 29
theorem sc_l_mixed : FnScope ["_law_cell", "_law_k", "_law_mix"] ["_law_cell", "_law_k"] (defScope s_l_mixed) := ⟨rfl, rfl, rfl, by decide +kernel, rfl, by decide +kernel, by decide +kernel⟩
abbrev s_l_next : Stmt := top 30
theorem sc_l_next : FnScope ["_law_draw", "_law_size", "_law_at", "_law_many", "_law_cell"] ["_law_draw", "_law_size"] (defScope s_l_next) := ⟨rfl, rfl, rfl, by decide +kernel, rfl, by decide +kernel, by decide +kernel⟩
abbrev s_l_word : Stmt := top 31
theorem sc_l_word : FnScope ["_law_draw", "_law_some", "_law_word_here", "_law_k"] ["_law_draw"] (defScope s_l_word) := ⟨rfl, rfl, rfl, by decide +kernel, rfl, by decide +kernel, by decide +kernel⟩
abbrev s_l_words : Stmt := top 32
theorem sc_l_words : FnScope ["_law_draw", "_law_many", "_law_found", "_law_k", "_law_word_here", "_law_sign"] ["_law_draw", "_law_many"] (defScope s_l_words) := ⟨rfl, rfl, rfl, by decide +kernel, rfl, by decide +kernel, by decide +kernel⟩
abbrev s_l_is : Stmt := top 33
theorem sc_l_is : FnScope ["_law_found", "_law_due_here"] ["_law_found", "_law_due_here"] (defScope s_l_is) := ⟨rfl, rfl, rfl, by decide +kernel, rfl, by decide +kernel, by decide +kernel⟩
abbrev s_l_edge : Stmt := top 34
theorem sc_l_edge : FnScope ["_law_draw", "_law_most", "_law_at"] ["_law_draw", "_law_most"] (defScope s_l_edge) := ⟨rfl, rfl, rfl, by decide +kernel, rfl, by decide +kernel, by decide +kernel⟩
abbrev s_l_day : Stmt := top 35
theorem sc_l_day : FnScope ["_law_draw", "_law_days", "_law_at"] ["_law_draw", "_law_days"] (defScope s_l_day) := ⟨rfl, rfl, rfl, by decide +kernel, rfl, by decide +kernel, by decide +kernel⟩
abbrev s_l_due : Stmt := top 36
theorem sc_l_due : FnScope ["_law_rows", "_law_town", "_law_kind", "_law_day_here", "_law_days", "_law_row_here"] ["_law_rows", "_law_town", "_law_kind", "_law_day_here"] (defScope s_l_due) := ⟨rfl, rfl, rfl, by decide +kernel, rfl, by decide +kernel, by decide +kernel⟩
abbrev s_l_turns : Stmt := top 37
theorem sc_l_turns : FnScope ["_law_rows", "_law_town", "_law_kind", "_law_found", "_law_ahead", "_law_day_here", "_law_due_here", "_law_row_here"] ["_law_rows", "_law_town", "_law_kind"] (defScope s_l_turns) := ⟨rfl, rfl, rfl, by decide +kernel, rfl, by decide +kernel, by decide +kernel⟩
abbrev s_l_row : Stmt := top 38
theorem sc_l_row : FnScope ["_law_draw", "_law_towns", "_law_kinds", "_law_rows", "_law_town", "_law_kind", "_law_row_here"] ["_law_draw", "_law_towns", "_law_kinds", "_law_rows"] (defScope s_l_row) := ⟨rfl, rfl, rfl, by decide +kernel, rfl, by decide +kernel, by decide +kernel⟩
abbrev s_l_bad_name : Stmt := top 39
theorem sc_l_bad_name : FnScope ["_law_draw", "_law_word_here", "_law_way", "_law_at", "_law_sign"] ["_law_draw", "_law_word_here"] (defScope s_l_bad_name) := ⟨rfl, rfl, rfl, by decide +kernel, rfl, by decide +kernel, by decide +kernel⟩
abbrev s_l_bad_number : Stmt := top 40
theorem sc_l_bad_number : FnScope ["_law_draw", "_law_most", "_law_far", "_law_some"] ["_law_draw", "_law_most"] (defScope s_l_bad_number) := ⟨rfl, rfl, rfl, by decide +kernel, rfl, by decide +kernel, by decide +kernel⟩
abbrev s_l_named : Stmt := top 41
theorem sc_l_named : FnScope ["_law_e", "_law_found", "_law_word_here", "_law_is_one"] ["_law_e"] (defScope s_l_named) := ⟨rfl, rfl, rfl, by decide +kernel, rfl, by decide +kernel, by decide +kernel⟩
abbrev s_l_asked : Stmt := top 42
theorem sc_l_asked : FnScope ["_law_calls", "_law_way", "_law_parts", "_law_caught", "_law_found", "_law_e"] ["_law_calls", "_law_way", "_law_parts"] (defScope s_l_asked) := ⟨rfl, rfl, rfl, by decide +kernel, rfl, by decide +kernel, by decide +kernel⟩
abbrev s_l_answer : Stmt := top 43
theorem sc_l_answer : FnScope ["_law_way", "_law_parts", "_law_rows"] ["_law_way", "_law_parts", "_law_rows"] (defScope s_l_answer) := ⟨rfl, rfl, rfl, by decide +kernel, rfl, by decide +kernel, by decide +kernel⟩
abbrev s_l_refused : Stmt := top 44
theorem sc_l_refused : FnScope ["_law_draw", "_law_calls", "_law_rows", "_law_way", "_law_parts", "_law_bits", "_law_some", "_law_bad", "_law_spoilt", "_law_asked_here", "_law_due_here", "_law_k"] ["_law_draw", "_law_calls", "_law_rows", "_law_way", "_law_parts"] (defScope s_l_refused) := ⟨rfl, rfl, rfl, by decide +kernel, rfl, by decide +kernel, by decide +kernel⟩
abbrev s_law : Stmt := top 45
theorem sc_law : FnScope ["_law_script", "_law_draw", "_law_names", "_law_calls", "_law_rows", "_law_turn", "_law_way", "_law_row_here", "_law_parts"] ["_law_script"] (defScope s_law) := ⟨rfl, rfl, rfl, by decide +kernel, rfl, by decide +kernel, by decide +kernel⟩
abbrev c_SMALL_LETTERS : V := .str "abcdefghijklmnopqrstuvwxyz"
abbrev c_LONGEST_NAME : V := .int 8
abbrev c_MOST_DAY : V := .int 9999
abbrev c_MOST_WORTH : V := .int 1000000
abbrev c_MOST_TELLINGS : V := .int 300
structure Ad where
  C_Calls : Addr
  C_NoName : Addr
  C_NoDay : Addr
  C_NoBook : Addr
  C_NoWorth : Addr
  C_TooMany : Addr
  C_NoMany : Addr
  C_NoAmount : Addr
  C_CoinError : Addr
  a_is_made_of : Addr
  fd_is_made_of : FuncData
  a_is_word : Addr
  fd_is_word : FuncData
  a_is_name : Addr
  fd_is_name : FuncData
  a_is_number : Addr
  fd_is_number : FuncData
  a_is_within : Addr
  fd_is_within : FuncData
  a_is_day : Addr
  fd_is_day : FuncData
  a_is_worth : Addr
  fd_is_worth : FuncData
  a_check_name : Addr
  fd_check_name : FuncData
  a_check_day : Addr
  fd_check_day : FuncData
  a_check_worth : Addr
  fd_check_worth : FuncData
  a_Calls_init : Addr
  fd_Calls_init : FuncData
  a_Calls_len : Addr
  fd_Calls_len : FuncData
  a_Calls_tell : Addr
  fd_Calls_tell : FuncData
  a_Calls_worth : Addr
  fd_Calls_worth : FuncData
  a_Calls_turns : Addr
  fd_Calls_turns : FuncData
  a_Calls_tellings : Addr
  fd_Calls_tellings : FuncData
  a_Calls_worths_by_day : Addr
  fd_Calls_worths_by_day : FuncData
  a_l_mixed : Addr
  fd_l_mixed : FuncData
  a_l_next : Addr
  fd_l_next : FuncData
  a_l_word : Addr
  fd_l_word : FuncData
  a_l_words : Addr
  fd_l_words : FuncData
  a_l_is : Addr
  fd_l_is : FuncData
  a_l_edge : Addr
  fd_l_edge : FuncData
  a_l_day : Addr
  fd_l_day : FuncData
  a_l_due : Addr
  fd_l_due : FuncData
  a_l_turns : Addr
  fd_l_turns : FuncData
  a_l_row : Addr
  fd_l_row : FuncData
  a_l_bad_name : Addr
  fd_l_bad_name : FuncData
  a_l_bad_number : Addr
  fd_l_bad_number : FuncData
  a_l_named : Addr
  fd_l_named : FuncData
  a_l_asked : Addr
  fd_l_asked : FuncData
  a_l_answer : Addr
  fd_l_answer : FuncData
  a_l_refused : Addr
  fd_l_refused : FuncData
  a_law : Addr
  fd_law : FuncData
  k_SMALL_LETTERS : Tok
  k_LONGEST_NAME : Tok
  k_MOST_DAY : Tok
  k_MOST_WORTH : Tok
  k_MOST_TELLINGS : Tok
structure Env (K : PySem.W.Frag) (mg : Str → Option Value) (t : Ad) : Prop where
  cl_Calls : Cls K t.C_Calls
  mg_Calls : mg "Calls" = some (.ref t.C_Calls)
  mk_Calls : Mk K t.C_Calls t.a_Calls_init
  no_Calls_rows : NoAttr K t.C_Calls "rows"
  mg_NoName : mg "NoName" = some (.ref t.C_NoName)
  mg_NoDay : mg "NoDay" = some (.ref t.C_NoDay)
  mg_NoBook : mg "NoBook" = some (.ref t.C_NoBook)
  mg_NoWorth : mg "NoWorth" = some (.ref t.C_NoWorth)
  mg_TooMany : mg "TooMany" = some (.ref t.C_TooMany)
  mg_NoMany : mg "NoMany" = some (.ref t.C_NoMany)
  mg_NoAmount : mg "NoAmount" = some (.ref t.C_NoAmount)
  mg_CoinError : mg "CoinError" = some (.ref t.C_CoinError)
  ex_NoName : ExcI K t.C_NoName
  is_NoName_NoName : PySem.W.kitOne K (.ref t.C_NoName) (.ref t.C_NoName) = some true
  is_NoName_NoDay : PySem.W.kitOne K (.ref t.C_NoName) (.ref t.C_NoDay) = some false
  is_NoName_NoWorth : PySem.W.kitOne K (.ref t.C_NoName) (.ref t.C_NoWorth) = some false
  is_NoName_NoBook : PySem.W.kitOne K (.ref t.C_NoName) (.ref t.C_NoBook) = some false
  is_NoName_TooMany : PySem.W.kitOne K (.ref t.C_NoName) (.ref t.C_TooMany) = some false
  is_NoName_NoMany : PySem.W.kitOne K (.ref t.C_NoName) (.ref t.C_NoMany) = some false
  is_NoName_NoAmount : PySem.W.kitOne K (.ref t.C_NoName) (.ref t.C_NoAmount) = some false
  is_NoName_ValueError : PySem.W.kitOne K (.ref t.C_NoName) (.type "ValueError") = some true
  ca_NoName_CoinError : PySem.W.exmOne K (.ref t.C_NoName) (.ref t.C_CoinError) = some true
  ex_NoDay : ExcI K t.C_NoDay
  is_NoDay_NoName : PySem.W.kitOne K (.ref t.C_NoDay) (.ref t.C_NoName) = some false
  is_NoDay_NoDay : PySem.W.kitOne K (.ref t.C_NoDay) (.ref t.C_NoDay) = some true
  is_NoDay_NoWorth : PySem.W.kitOne K (.ref t.C_NoDay) (.ref t.C_NoWorth) = some false
  is_NoDay_NoBook : PySem.W.kitOne K (.ref t.C_NoDay) (.ref t.C_NoBook) = some false
  is_NoDay_TooMany : PySem.W.kitOne K (.ref t.C_NoDay) (.ref t.C_TooMany) = some false
  is_NoDay_NoMany : PySem.W.kitOne K (.ref t.C_NoDay) (.ref t.C_NoMany) = some false
  is_NoDay_NoAmount : PySem.W.kitOne K (.ref t.C_NoDay) (.ref t.C_NoAmount) = some false
  is_NoDay_ValueError : PySem.W.kitOne K (.ref t.C_NoDay) (.type "ValueError") = some true
  ca_NoDay_CoinError : PySem.W.exmOne K (.ref t.C_NoDay) (.ref t.C_CoinError) = some true
  ex_NoBook : ExcI K t.C_NoBook
  is_NoBook_NoName : PySem.W.kitOne K (.ref t.C_NoBook) (.ref t.C_NoName) = some false
  is_NoBook_NoDay : PySem.W.kitOne K (.ref t.C_NoBook) (.ref t.C_NoDay) = some false
  is_NoBook_NoWorth : PySem.W.kitOne K (.ref t.C_NoBook) (.ref t.C_NoWorth) = some false
  is_NoBook_NoBook : PySem.W.kitOne K (.ref t.C_NoBook) (.ref t.C_NoBook) = some true
  is_NoBook_TooMany : PySem.W.kitOne K (.ref t.C_NoBook) (.ref t.C_TooMany) = some false
  is_NoBook_NoMany : PySem.W.kitOne K (.ref t.C_NoBook) (.ref t.C_NoMany) = some false
  is_NoBook_NoAmount : PySem.W.kitOne K (.ref t.C_NoBook) (.ref t.C_NoAmount) = some false
  is_NoBook_ValueError : PySem.W.kitOne K (.ref t.C_NoBook) (.type "ValueError") = some true
  ca_NoBook_CoinError : PySem.W.exmOne K (.ref t.C_NoBook) (.ref t.C_CoinError) = some true
  f_is_made_of : Fun K "is_made_of" "is_made_of" s_is_made_of t.a_is_made_of t.fd_is_made_of
  b_is_made_of : Binds K t.fd_is_made_of ["text", "signs"] []
  kp_is_made_of : PySem.W.keepIn K (.ref t.a_is_made_of) = true
  mg_is_made_of : mg "is_made_of" = some (.ref t.a_is_made_of)
  f_is_word : Fun K "is_word" "is_word" s_is_word t.a_is_word t.fd_is_word
  b_is_word : Binds K t.fd_is_word ["text"] []
  kp_is_word : PySem.W.keepIn K (.ref t.a_is_word) = true
  mg_is_word : mg "is_word" = some (.ref t.a_is_word)
  f_is_name : Fun K "is_name" "is_name" s_is_name t.a_is_name t.fd_is_name
  b_is_name : Binds K t.fd_is_name ["text"] []
  kp_is_name : PySem.W.keepIn K (.ref t.a_is_name) = true
  mg_is_name : mg "is_name" = some (.ref t.a_is_name)
  f_is_number : Fun K "is_number" "is_number" s_is_number t.a_is_number t.fd_is_number
  b_is_number : Binds K t.fd_is_number ["number"] []
  kp_is_number : PySem.W.keepIn K (.ref t.a_is_number) = true
  mg_is_number : mg "is_number" = some (.ref t.a_is_number)
  f_is_within : Fun K "is_within" "is_within" s_is_within t.a_is_within t.fd_is_within
  b_is_within : Binds K t.fd_is_within ["number", "least", "most"] []
  kp_is_within : PySem.W.keepIn K (.ref t.a_is_within) = true
  mg_is_within : mg "is_within" = some (.ref t.a_is_within)
  f_is_day : Fun K "is_day" "is_day" s_is_day t.a_is_day t.fd_is_day
  b_is_day : Binds K t.fd_is_day ["number"] []
  kp_is_day : PySem.W.keepIn K (.ref t.a_is_day) = true
  mg_is_day : mg "is_day" = some (.ref t.a_is_day)
  f_is_worth : Fun K "is_worth" "is_worth" s_is_worth t.a_is_worth t.fd_is_worth
  b_is_worth : Binds K t.fd_is_worth ["number"] []
  kp_is_worth : PySem.W.keepIn K (.ref t.a_is_worth) = true
  mg_is_worth : mg "is_worth" = some (.ref t.a_is_worth)
  f_check_name : Fun K "check_name" "check_name" s_check_name t.a_check_name t.fd_check_name
  b_check_name : Binds K t.fd_check_name ["text"] []
  kp_check_name : PySem.W.keepIn K (.ref t.a_check_name) = true
  mg_check_name : mg "check_name" = some (.ref t.a_check_name)
  f_check_day : Fun K "check_day" "check_day" s_check_day t.a_check_day t.fd_check_day
  b_check_day : Binds K t.fd_check_day ["number"] []
  kp_check_day : PySem.W.keepIn K (.ref t.a_check_day) = true
  mg_check_day : mg "check_day" = some (.ref t.a_check_day)
  f_check_worth : Fun K "check_worth" "check_worth" s_check_worth t.a_check_worth t.fd_check_worth
  b_check_worth : Binds K t.fd_check_worth ["number"] []
  kp_check_worth : PySem.W.keepIn K (.ref t.a_check_worth) = true
  mg_check_worth : mg "check_worth" = some (.ref t.a_check_worth)
  f_Calls_init : Fun K "__init__" "Calls.__init__" s_Calls_init t.a_Calls_init t.fd_Calls_init
  b_Calls_init : Binds K t.fd_Calls_init ["self"] []
  f_Calls_len : Fun K "__len__" "Calls.__len__" s_Calls_len t.a_Calls_len t.fd_Calls_len
  b_Calls_len : Binds K t.fd_Calls_len ["self"] []
  m_Calls_len : Meth K t.C_Calls "__len__" t.a_Calls_len
  f_Calls_tell : Fun K "tell" "Calls.tell" s_Calls_tell t.a_Calls_tell t.fd_Calls_tell
  b_Calls_tell : Binds K t.fd_Calls_tell ["self", "town", "kind", "day", "worth"] []
  m_Calls_tell : Meth K t.C_Calls "tell" t.a_Calls_tell
  f_Calls_worth : FunD K "worth" "Calls.worth" s_Calls_worth t.a_Calls_worth t.fd_Calls_worth [Value.none]
  b_Calls_worth : Binds K t.fd_Calls_worth ["self", "town", "kind", "day", "known"] []
  bd_Calls_worth : Binds K t.fd_Calls_worth ["self", "town", "kind", "day", "known"] [Value.none]
  kb_Calls_worth : KB K t.fd_Calls_worth ["self", "town", "kind", "day", "known"] ["known"] 4
  m_Calls_worth : Meth K t.C_Calls "worth" t.a_Calls_worth
  f_Calls_turns : FunD K "turns" "Calls.turns" s_Calls_turns t.a_Calls_turns t.fd_Calls_turns [Value.none]
  b_Calls_turns : Binds K t.fd_Calls_turns ["self", "town", "kind", "known"] []
  bd_Calls_turns : Binds K t.fd_Calls_turns ["self", "town", "kind", "known"] [Value.none]
  kb_Calls_turns : KB K t.fd_Calls_turns ["self", "town", "kind", "known"] ["known"] 3
  m_Calls_turns : Meth K t.C_Calls "turns" t.a_Calls_turns
  f_Calls_tellings : FunD K "tellings" "Calls.tellings" s_Calls_tellings t.a_Calls_tellings t.fd_Calls_tellings [Value.none]
  b_Calls_tellings : Binds K t.fd_Calls_tellings ["self", "known"] []
  bd_Calls_tellings : Binds K t.fd_Calls_tellings ["self", "known"] [Value.none]
  kb_Calls_tellings : KB K t.fd_Calls_tellings ["self", "known"] ["known"] 1
  m_Calls_tellings : Meth K t.C_Calls "tellings" t.a_Calls_tellings
  f_Calls_worths_by_day : Fun K "worths_by_day" "Calls.worths_by_day" s_Calls_worths_by_day t.a_Calls_worths_by_day t.fd_Calls_worths_by_day
  b_Calls_worths_by_day : Binds K t.fd_Calls_worths_by_day ["self", "town", "kind", "known"] []
  m_Calls_worths_by_day : Meth K t.C_Calls "worths_by_day" t.a_Calls_worths_by_day
  f_l_mixed : Fun K "_law_mixed" "_law_mixed" s_l_mixed t.a_l_mixed t.fd_l_mixed
  b_l_mixed : Binds K t.fd_l_mixed ["_law_cell", "_law_k"] []
  kp_l_mixed : PySem.W.keepIn K (.ref t.a_l_mixed) = true
  mg_l_mixed : mg "_law_mixed" = some (.ref t.a_l_mixed)
  f_l_next : Fun K "_law_next" "_law_next" s_l_next t.a_l_next t.fd_l_next
  b_l_next : Binds K t.fd_l_next ["_law_draw", "_law_size"] []
  kp_l_next : PySem.W.keepIn K (.ref t.a_l_next) = true
  mg_l_next : mg "_law_next" = some (.ref t.a_l_next)
  f_l_word : Fun K "_law_word" "_law_word" s_l_word t.a_l_word t.fd_l_word
  b_l_word : Binds K t.fd_l_word ["_law_draw"] []
  kp_l_word : PySem.W.keepIn K (.ref t.a_l_word) = true
  mg_l_word : mg "_law_word" = some (.ref t.a_l_word)
  f_l_words : Fun K "_law_words" "_law_words" s_l_words t.a_l_words t.fd_l_words
  b_l_words : Binds K t.fd_l_words ["_law_draw", "_law_many"] []
  kp_l_words : PySem.W.keepIn K (.ref t.a_l_words) = true
  mg_l_words : mg "_law_words" = some (.ref t.a_l_words)
  f_l_is : Fun K "_law_is" "_law_is" s_l_is t.a_l_is t.fd_l_is
  b_l_is : Binds K t.fd_l_is ["_law_found", "_law_due_here"] []
  kp_l_is : PySem.W.keepIn K (.ref t.a_l_is) = true
  mg_l_is : mg "_law_is" = some (.ref t.a_l_is)
  f_l_edge : Fun K "_law_edge" "_law_edge" s_l_edge t.a_l_edge t.fd_l_edge
  b_l_edge : Binds K t.fd_l_edge ["_law_draw", "_law_most"] []
  kp_l_edge : PySem.W.keepIn K (.ref t.a_l_edge) = true
  mg_l_edge : mg "_law_edge" = some (.ref t.a_l_edge)
  f_l_day : Fun K "_law_day" "_law_day" s_l_day t.a_l_day t.fd_l_day
  b_l_day : Binds K t.fd_l_day ["_law_draw", "_law_days"] []
  kp_l_day : PySem.W.keepIn K (.ref t.a_l_day) = true
  mg_l_day : mg "_law_day" = some (.ref t.a_l_day)
  f_l_due : Fun K "_law_due" "_law_due" s_l_due t.a_l_due t.fd_l_due
  b_l_due : Binds K t.fd_l_due ["_law_rows", "_law_town", "_law_kind", "_law_day_here"] []
  kp_l_due : PySem.W.keepIn K (.ref t.a_l_due) = true
  mg_l_due : mg "_law_due" = some (.ref t.a_l_due)
  f_l_turns : Fun K "_law_turns" "_law_turns" s_l_turns t.a_l_turns t.fd_l_turns
  b_l_turns : Binds K t.fd_l_turns ["_law_rows", "_law_town", "_law_kind"] []
  kp_l_turns : PySem.W.keepIn K (.ref t.a_l_turns) = true
  mg_l_turns : mg "_law_turns" = some (.ref t.a_l_turns)
  f_l_row : Fun K "_law_row" "_law_row" s_l_row t.a_l_row t.fd_l_row
  b_l_row : Binds K t.fd_l_row ["_law_draw", "_law_towns", "_law_kinds", "_law_rows"] []
  kp_l_row : PySem.W.keepIn K (.ref t.a_l_row) = true
  mg_l_row : mg "_law_row" = some (.ref t.a_l_row)
  f_l_bad_name : Fun K "_law_bad_name" "_law_bad_name" s_l_bad_name t.a_l_bad_name t.fd_l_bad_name
  b_l_bad_name : Binds K t.fd_l_bad_name ["_law_draw", "_law_word_here"] []
  kp_l_bad_name : PySem.W.keepIn K (.ref t.a_l_bad_name) = true
  mg_l_bad_name : mg "_law_bad_name" = some (.ref t.a_l_bad_name)
  f_l_bad_number : Fun K "_law_bad_number" "_law_bad_number" s_l_bad_number t.a_l_bad_number t.fd_l_bad_number
  b_l_bad_number : Binds K t.fd_l_bad_number ["_law_draw", "_law_most"] []
  kp_l_bad_number : PySem.W.keepIn K (.ref t.a_l_bad_number) = true
  mg_l_bad_number : mg "_law_bad_number" = some (.ref t.a_l_bad_number)
  f_l_named : Fun K "_law_named" "_law_named" s_l_named t.a_l_named t.fd_l_named
  b_l_named : Binds K t.fd_l_named ["_law_e"] []
  kp_l_named : PySem.W.keepIn K (.ref t.a_l_named) = true
  mg_l_named : mg "_law_named" = some (.ref t.a_l_named)
  f_l_asked : Fun K "_law_asked" "_law_asked" s_l_asked t.a_l_asked t.fd_l_asked
  b_l_asked : Binds K t.fd_l_asked ["_law_calls", "_law_way", "_law_parts"] []
  kp_l_asked : PySem.W.keepIn K (.ref t.a_l_asked) = true
  mg_l_asked : mg "_law_asked" = some (.ref t.a_l_asked)
  f_l_answer : Fun K "_law_answer" "_law_answer" s_l_answer t.a_l_answer t.fd_l_answer
  b_l_answer : Binds K t.fd_l_answer ["_law_way", "_law_parts", "_law_rows"] []
  kp_l_answer : PySem.W.keepIn K (.ref t.a_l_answer) = true
  mg_l_answer : mg "_law_answer" = some (.ref t.a_l_answer)
  f_l_refused : Fun K "_law_refused" "_law_refused" s_l_refused t.a_l_refused t.fd_l_refused
  b_l_refused : Binds K t.fd_l_refused ["_law_draw", "_law_calls", "_law_rows", "_law_way", "_law_parts"] []
  kp_l_refused : PySem.W.keepIn K (.ref t.a_l_refused) = true
  mg_l_refused : mg "_law_refused" = some (.ref t.a_l_refused)
  f_law : Fun K "law" "law" s_law t.a_law t.fd_law
  b_law : Binds K t.fd_law ["_law_script"] []
  kp_law : PySem.W.keepIn K (.ref t.a_law) = true
  mg_law : mg "law" = some (.ref t.a_law)
  mg_SMALL_LETTERS : mg "SMALL_LETTERS" = some (Value.str "abcdefghijklmnopqrstuvwxyz" t.k_SMALL_LETTERS)
  mg_LONGEST_NAME : mg "LONGEST_NAME" = some (Value.int 8 t.k_LONGEST_NAME)
  mg_MOST_DAY : mg "MOST_DAY" = some (Value.int 9999 t.k_MOST_DAY)
  mg_MOST_WORTH : mg "MOST_WORTH" = some (Value.int 1000000 t.k_MOST_WORTH)
  mg_MOST_TELLINGS : mg "MOST_TELLINGS" = some (Value.int 300 t.k_MOST_TELLINGS)
  z_len : mg "len" = none
  z_range : mg "range" = none
  z_max : mg "max" = none
  z_min : mg "min" = none
  z_isinstance : mg "isinstance" = none
  z_all : mg "all" = none
  z_str : mg "str" = none
  z_bool : mg "bool" = none
  z_int : mg "int" = none
  z_list : mg "list" = none
  z_sorted : mg "sorted" = none
  z_set : mg "set" = none
  z_ValueError : mg "ValueError" = none
theorem env_mk {K : PySem.W.Frag} {h : Heap} {mg : Str → Option Value} {C_Calls : Addr} {C_NoName : Addr} {C_NoDay : Addr} {C_NoBook : Addr} {C_NoWorth : Addr} {C_TooMany : Addr} {C_NoMany : Addr} {C_NoAmount : Addr} {C_CoinError : Addr} {a_is_made_of : Addr} {od_is_made_of an_is_made_of : Option Addr} {sl_is_made_of : Array (Option Value)} {oc_is_made_of kV_is_made_of dc_is_made_of pm_is_made_of cd_is_made_of ct_is_made_of : Value} {a_is_word : Addr} {od_is_word an_is_word : Option Addr} {sl_is_word : Array (Option Value)} {oc_is_word kV_is_word dc_is_word pm_is_word cd_is_word ct_is_word : Value} {a_is_name : Addr} {od_is_name an_is_name : Option Addr} {sl_is_name : Array (Option Value)} {oc_is_name kV_is_name dc_is_name pm_is_name cd_is_name ct_is_name : Value} {a_is_number : Addr} {od_is_number an_is_number : Option Addr} {sl_is_number : Array (Option Value)} {oc_is_number kV_is_number dc_is_number pm_is_number cd_is_number ct_is_number : Value} {a_is_within : Addr} {od_is_within an_is_within : Option Addr} {sl_is_within : Array (Option Value)} {oc_is_within kV_is_within dc_is_within pm_is_within cd_is_within ct_is_within : Value} {a_is_day : Addr} {od_is_day an_is_day : Option Addr} {sl_is_day : Array (Option Value)} {oc_is_day kV_is_day dc_is_day pm_is_day cd_is_day ct_is_day : Value} {a_is_worth : Addr} {od_is_worth an_is_worth : Option Addr} {sl_is_worth : Array (Option Value)} {oc_is_worth kV_is_worth dc_is_worth pm_is_worth cd_is_worth ct_is_worth : Value} {a_check_name : Addr} {od_check_name an_check_name : Option Addr} {sl_check_name : Array (Option Value)} {oc_check_name kV_check_name dc_check_name pm_check_name cd_check_name ct_check_name : Value} {a_check_day : Addr} {od_check_day an_check_day : Option Addr} {sl_check_day : Array (Option Value)} {oc_check_day kV_check_day dc_check_day pm_check_day cd_check_day ct_check_day : Value} {a_check_worth : Addr} {od_check_worth an_check_worth : Option Addr} {sl_check_worth : Array (Option Value)} {oc_check_worth kV_check_worth dc_check_worth pm_check_worth cd_check_worth ct_check_worth : Value} {a_Calls_init : Addr} {od_Calls_init an_Calls_init : Option Addr} {sl_Calls_init : Array (Option Value)} {oc_Calls_init kV_Calls_init dc_Calls_init pm_Calls_init cd_Calls_init ct_Calls_init : Value} {a_Calls_len : Addr} {od_Calls_len an_Calls_len : Option Addr} {sl_Calls_len : Array (Option Value)} {oc_Calls_len kV_Calls_len dc_Calls_len pm_Calls_len cd_Calls_len ct_Calls_len : Value} {a_Calls_tell : Addr} {od_Calls_tell an_Calls_tell : Option Addr} {sl_Calls_tell : Array (Option Value)} {oc_Calls_tell kV_Calls_tell dc_Calls_tell pm_Calls_tell cd_Calls_tell ct_Calls_tell : Value} {a_Calls_worth : Addr} {od_Calls_worth an_Calls_worth : Option Addr} {sl_Calls_worth : Array (Option Value)} {oc_Calls_worth kV_Calls_worth dc_Calls_worth pm_Calls_worth cd_Calls_worth ct_Calls_worth : Value} {T_Calls_worth : Addr} {oT_Calls_worth : Value} {dT_Calls_worth : Option Addr} {nT_Calls_worth : Nat} {sT_Calls_worth : Array (Option Value)} {a_Calls_turns : Addr} {od_Calls_turns an_Calls_turns : Option Addr} {sl_Calls_turns : Array (Option Value)} {oc_Calls_turns kV_Calls_turns dc_Calls_turns pm_Calls_turns cd_Calls_turns ct_Calls_turns : Value} {T_Calls_turns : Addr} {oT_Calls_turns : Value} {dT_Calls_turns : Option Addr} {nT_Calls_turns : Nat} {sT_Calls_turns : Array (Option Value)} {a_Calls_tellings : Addr} {od_Calls_tellings an_Calls_tellings : Option Addr} {sl_Calls_tellings : Array (Option Value)} {oc_Calls_tellings kV_Calls_tellings dc_Calls_tellings pm_Calls_tellings cd_Calls_tellings ct_Calls_tellings : Value} {T_Calls_tellings : Addr} {oT_Calls_tellings : Value} {dT_Calls_tellings : Option Addr} {nT_Calls_tellings : Nat} {sT_Calls_tellings : Array (Option Value)} {a_Calls_worths_by_day : Addr} {od_Calls_worths_by_day an_Calls_worths_by_day : Option Addr} {sl_Calls_worths_by_day : Array (Option Value)} {oc_Calls_worths_by_day kV_Calls_worths_by_day dc_Calls_worths_by_day pm_Calls_worths_by_day cd_Calls_worths_by_day ct_Calls_worths_by_day : Value} {a_l_mixed : Addr} {od_l_mixed an_l_mixed : Option Addr} {sl_l_mixed : Array (Option Value)} {oc_l_mixed kV_l_mixed dc_l_mixed pm_l_mixed cd_l_mixed ct_l_mixed : Value} {a_l_next : Addr} {od_l_next an_l_next : Option Addr} {sl_l_next : Array (Option Value)} {oc_l_next kV_l_next dc_l_next pm_l_next cd_l_next ct_l_next : Value} {a_l_word : Addr} {od_l_word an_l_word : Option Addr} {sl_l_word : Array (Option Value)} {oc_l_word kV_l_word dc_l_word pm_l_word cd_l_word ct_l_word : Value} {a_l_words : Addr} {od_l_words an_l_words : Option Addr} {sl_l_words : Array (Option Value)} {oc_l_words kV_l_words dc_l_words pm_l_words cd_l_words ct_l_words : Value} {a_l_is : Addr} {od_l_is an_l_is : Option Addr} {sl_l_is : Array (Option Value)} {oc_l_is kV_l_is dc_l_is pm_l_is cd_l_is ct_l_is : Value} {a_l_edge : Addr} {od_l_edge an_l_edge : Option Addr} {sl_l_edge : Array (Option Value)} {oc_l_edge kV_l_edge dc_l_edge pm_l_edge cd_l_edge ct_l_edge : Value} {a_l_day : Addr} {od_l_day an_l_day : Option Addr} {sl_l_day : Array (Option Value)} {oc_l_day kV_l_day dc_l_day pm_l_day cd_l_day ct_l_day : Value} {a_l_due : Addr} {od_l_due an_l_due : Option Addr} {sl_l_due : Array (Option Value)} {oc_l_due kV_l_due dc_l_due pm_l_due cd_l_due ct_l_due : Value} {a_l_turns : Addr} {od_l_turns an_l_turns : Option Addr} {sl_l_turns : Array (Option Value)} {oc_l_turns kV_l_turns dc_l_turns pm_l_turns cd_l_turns ct_l_turns : Value} {a_l_row : Addr} {od_l_row an_l_row : Option Addr} {sl_l_row : Array (Option Value)} {oc_l_row kV_l_row dc_l_row pm_l_row cd_l_row ct_l_row : Value} {a_l_bad_name : Addr} {od_l_bad_name an_l_bad_name : Option Addr} {sl_l_bad_name : Array (Option Value)} {oc_l_bad_name kV_l_bad_name dc_l_bad_name pm_l_bad_name cd_l_bad_name ct_l_bad_name : Value} {a_l_bad_number : Addr} {od_l_bad_number an_l_bad_number : Option Addr} {sl_l_bad_number : Array (Option Value)} {oc_l_bad_number kV_l_bad_number dc_l_bad_number pm_l_bad_number cd_l_bad_number ct_l_bad_number : Value} {a_l_named : Addr} {od_l_named an_l_named : Option Addr} {sl_l_named : Array (Option Value)} {oc_l_named kV_l_named dc_l_named pm_l_named cd_l_named ct_l_named : Value} {a_l_asked : Addr} {od_l_asked an_l_asked : Option Addr} {sl_l_asked : Array (Option Value)} {oc_l_asked kV_l_asked dc_l_asked pm_l_asked cd_l_asked ct_l_asked : Value} {a_l_answer : Addr} {od_l_answer an_l_answer : Option Addr} {sl_l_answer : Array (Option Value)} {oc_l_answer kV_l_answer dc_l_answer pm_l_answer cd_l_answer ct_l_answer : Value} {a_l_refused : Addr} {od_l_refused an_l_refused : Option Addr} {sl_l_refused : Array (Option Value)} {oc_l_refused kV_l_refused dc_l_refused pm_l_refused cd_l_refused ct_l_refused : Value} {a_law : Addr} {od_law an_law : Option Addr} {sl_law : Array (Option Value)} {oc_law kV_law dc_law pm_law cd_law ct_law : Value} {k_SMALL_LETTERS : Tok} {k_LONGEST_NAME : Tok} {k_MOST_DAY : Tok} {k_MOST_WORTH : Tok} {k_MOST_TELLINGS : Tok} (X : K.In h) (G : h.Ns mainGlobals mg)
    (n_Calls : PySem.W.nsIn K mainGlobals "Calls" = some (some (.ref C_Calls)))
    (pg_Calls : PySem.W.plainGet K C_Calls Str.empty = true)
    (hd_Calls : PySem.W.hasDictIn K C_Calls = true)
    (po_Calls : PySem.W.plainOver K C_Calls = true)
    (sa_Calls : PySem.W.findIn K (.ref C_Calls) "__setattr__" = some (some (.builtin "object.__setattr__")))
    (mk_Calls : PySem.W.makesIn K C_Calls = true)
    (kc_Calls : PySem.W.keepIn K (.ref C_Calls) = true)
    (no_Calls_rows : PySem.W.findIn K (.ref C_Calls) "rows" = some none)
    (n_NoName : PySem.W.nsIn K mainGlobals "NoName" = some (some (.ref C_NoName)))
    (n_NoDay : PySem.W.nsIn K mainGlobals "NoDay" = some (some (.ref C_NoDay)))
    (n_NoBook : PySem.W.nsIn K mainGlobals "NoBook" = some (some (.ref C_NoBook)))
    (n_NoWorth : PySem.W.nsIn K mainGlobals "NoWorth" = some (some (.ref C_NoWorth)))
    (n_TooMany : PySem.W.nsIn K mainGlobals "TooMany" = some (some (.ref C_TooMany)))
    (n_NoMany : PySem.W.nsIn K mainGlobals "NoMany" = some (some (.ref C_NoMany)))
    (n_NoAmount : PySem.W.nsIn K mainGlobals "NoAmount" = some (some (.ref C_NoAmount)))
    (n_CoinError : PySem.W.nsIn K mainGlobals "CoinError" = some (some (.ref C_CoinError)))
    (e0_NoName : PySem.W.excIn K C_NoName [.type "ValueError", .type "Exception", .type "BaseException", .type "object"] "ValueError.__new__" = true)
    (e1_NoName : PySem.W.findIn K (.ref C_NoName) "__class__" = some (some (.builtin "object.__class__")))
    (e2_NoName : PySem.W.findIn K (.ref C_NoName) "__getattribute__" = some (some (.builtin "BaseException.__getattribute__")))
    (e3_NoName : PySem.W.findIn K (.ref C_NoName) "__getattr__" = some none)
    (is_NoName_NoName : PySem.W.kitOne K (.ref C_NoName) (.ref C_NoName) = some true)
    (is_NoName_NoDay : PySem.W.kitOne K (.ref C_NoName) (.ref C_NoDay) = some false)
    (is_NoName_NoWorth : PySem.W.kitOne K (.ref C_NoName) (.ref C_NoWorth) = some false)
    (is_NoName_NoBook : PySem.W.kitOne K (.ref C_NoName) (.ref C_NoBook) = some false)
    (is_NoName_TooMany : PySem.W.kitOne K (.ref C_NoName) (.ref C_TooMany) = some false)
    (is_NoName_NoMany : PySem.W.kitOne K (.ref C_NoName) (.ref C_NoMany) = some false)
    (is_NoName_NoAmount : PySem.W.kitOne K (.ref C_NoName) (.ref C_NoAmount) = some false)
    (is_NoName_ValueError : PySem.W.kitOne K (.ref C_NoName) (.type "ValueError") = some true)
    (ca_NoName_CoinError : PySem.W.exmOne K (.ref C_NoName) (.ref C_CoinError) = some true)
    (e0_NoDay : PySem.W.excIn K C_NoDay [.type "ValueError", .type "Exception", .type "BaseException", .type "object"] "ValueError.__new__" = true)
    (e1_NoDay : PySem.W.findIn K (.ref C_NoDay) "__class__" = some (some (.builtin "object.__class__")))
    (e2_NoDay : PySem.W.findIn K (.ref C_NoDay) "__getattribute__" = some (some (.builtin "BaseException.__getattribute__")))
    (e3_NoDay : PySem.W.findIn K (.ref C_NoDay) "__getattr__" = some none)
    (is_NoDay_NoName : PySem.W.kitOne K (.ref C_NoDay) (.ref C_NoName) = some false)
    (is_NoDay_NoDay : PySem.W.kitOne K (.ref C_NoDay) (.ref C_NoDay) = some true)
    (is_NoDay_NoWorth : PySem.W.kitOne K (.ref C_NoDay) (.ref C_NoWorth) = some false)
    (is_NoDay_NoBook : PySem.W.kitOne K (.ref C_NoDay) (.ref C_NoBook) = some false)
    (is_NoDay_TooMany : PySem.W.kitOne K (.ref C_NoDay) (.ref C_TooMany) = some false)
    (is_NoDay_NoMany : PySem.W.kitOne K (.ref C_NoDay) (.ref C_NoMany) = some false)
    (is_NoDay_NoAmount : PySem.W.kitOne K (.ref C_NoDay) (.ref C_NoAmount) = some false)
    (is_NoDay_ValueError : PySem.W.kitOne K (.ref C_NoDay) (.type "ValueError") = some true)
    (ca_NoDay_CoinError : PySem.W.exmOne K (.ref C_NoDay) (.ref C_CoinError) = some true)
    (e0_NoBook : PySem.W.excIn K C_NoBook [.type "ValueError", .type "Exception", .type "BaseException", .type "object"] "ValueError.__new__" = true)
    (e1_NoBook : PySem.W.findIn K (.ref C_NoBook) "__class__" = some (some (.builtin "object.__class__")))
    (e2_NoBook : PySem.W.findIn K (.ref C_NoBook) "__getattribute__" = some (some (.builtin "BaseException.__getattribute__")))
    (e3_NoBook : PySem.W.findIn K (.ref C_NoBook) "__getattr__" = some none)
    (is_NoBook_NoName : PySem.W.kitOne K (.ref C_NoBook) (.ref C_NoName) = some false)
    (is_NoBook_NoDay : PySem.W.kitOne K (.ref C_NoBook) (.ref C_NoDay) = some false)
    (is_NoBook_NoWorth : PySem.W.kitOne K (.ref C_NoBook) (.ref C_NoWorth) = some false)
    (is_NoBook_NoBook : PySem.W.kitOne K (.ref C_NoBook) (.ref C_NoBook) = some true)
    (is_NoBook_TooMany : PySem.W.kitOne K (.ref C_NoBook) (.ref C_TooMany) = some false)
    (is_NoBook_NoMany : PySem.W.kitOne K (.ref C_NoBook) (.ref C_NoMany) = some false)
    (is_NoBook_NoAmount : PySem.W.kitOne K (.ref C_NoBook) (.ref C_NoAmount) = some false)
    (is_NoBook_ValueError : PySem.W.kitOne K (.ref C_NoBook) (.type "ValueError") = some true)
    (ca_NoBook_CoinError : PySem.W.exmOne K (.ref C_NoBook) (.ref C_CoinError) = some true)
    (n_is_made_of : PySem.W.nsIn K mainGlobals "is_made_of" = some (some (.ref a_is_made_of)))
    (l_is_made_of : K.lookup a_is_made_of = some ⟨oc_is_made_of, od_is_made_of, .func (PySem.W.fnOf "is_made_of" "is_made_of" (defArgs s_is_made_of) (defBody s_is_made_of) (defScope s_is_made_of) .none kV_is_made_of dc_is_made_of pm_is_made_of an_is_made_of cd_is_made_of ct_is_made_of), sl_is_made_of⟩)
    (c_is_made_of : PySem.W.codeIn K cd_is_made_of "is_made_of" = true)
    (k_is_made_of : PySem.W.keepIn K (.ref a_is_made_of) = true)
    (n_is_word : PySem.W.nsIn K mainGlobals "is_word" = some (some (.ref a_is_word)))
    (l_is_word : K.lookup a_is_word = some ⟨oc_is_word, od_is_word, .func (PySem.W.fnOf "is_word" "is_word" (defArgs s_is_word) (defBody s_is_word) (defScope s_is_word) .none kV_is_word dc_is_word pm_is_word an_is_word cd_is_word ct_is_word), sl_is_word⟩)
    (c_is_word : PySem.W.codeIn K cd_is_word "is_word" = true)
    (k_is_word : PySem.W.keepIn K (.ref a_is_word) = true)
    (n_is_name : PySem.W.nsIn K mainGlobals "is_name" = some (some (.ref a_is_name)))
    (l_is_name : K.lookup a_is_name = some ⟨oc_is_name, od_is_name, .func (PySem.W.fnOf "is_name" "is_name" (defArgs s_is_name) (defBody s_is_name) (defScope s_is_name) .none kV_is_name dc_is_name pm_is_name an_is_name cd_is_name ct_is_name), sl_is_name⟩)
    (c_is_name : PySem.W.codeIn K cd_is_name "is_name" = true)
    (k_is_name : PySem.W.keepIn K (.ref a_is_name) = true)
    (n_is_number : PySem.W.nsIn K mainGlobals "is_number" = some (some (.ref a_is_number)))
    (l_is_number : K.lookup a_is_number = some ⟨oc_is_number, od_is_number, .func (PySem.W.fnOf "is_number" "is_number" (defArgs s_is_number) (defBody s_is_number) (defScope s_is_number) .none kV_is_number dc_is_number pm_is_number an_is_number cd_is_number ct_is_number), sl_is_number⟩)
    (c_is_number : PySem.W.codeIn K cd_is_number "is_number" = true)
    (k_is_number : PySem.W.keepIn K (.ref a_is_number) = true)
    (n_is_within : PySem.W.nsIn K mainGlobals "is_within" = some (some (.ref a_is_within)))
    (l_is_within : K.lookup a_is_within = some ⟨oc_is_within, od_is_within, .func (PySem.W.fnOf "is_within" "is_within" (defArgs s_is_within) (defBody s_is_within) (defScope s_is_within) .none kV_is_within dc_is_within pm_is_within an_is_within cd_is_within ct_is_within), sl_is_within⟩)
    (c_is_within : PySem.W.codeIn K cd_is_within "is_within" = true)
    (k_is_within : PySem.W.keepIn K (.ref a_is_within) = true)
    (n_is_day : PySem.W.nsIn K mainGlobals "is_day" = some (some (.ref a_is_day)))
    (l_is_day : K.lookup a_is_day = some ⟨oc_is_day, od_is_day, .func (PySem.W.fnOf "is_day" "is_day" (defArgs s_is_day) (defBody s_is_day) (defScope s_is_day) .none kV_is_day dc_is_day pm_is_day an_is_day cd_is_day ct_is_day), sl_is_day⟩)
    (c_is_day : PySem.W.codeIn K cd_is_day "is_day" = true)
    (k_is_day : PySem.W.keepIn K (.ref a_is_day) = true)
    (n_is_worth : PySem.W.nsIn K mainGlobals "is_worth" = some (some (.ref a_is_worth)))
    (l_is_worth : K.lookup a_is_worth = some ⟨oc_is_worth, od_is_worth, .func (PySem.W.fnOf "is_worth" "is_worth" (defArgs s_is_worth) (defBody s_is_worth) (defScope s_is_worth) .none kV_is_worth dc_is_worth pm_is_worth an_is_worth cd_is_worth ct_is_worth), sl_is_worth⟩)
    (c_is_worth : PySem.W.codeIn K cd_is_worth "is_worth" = true)
    (k_is_worth : PySem.W.keepIn K (.ref a_is_worth) = true)
    (n_check_name : PySem.W.nsIn K mainGlobals "check_name" = some (some (.ref a_check_name)))
    (l_check_name : K.lookup a_check_name = some ⟨oc_check_name, od_check_name, .func (PySem.W.fnOf "check_name" "check_name" (defArgs s_check_name) (defBody s_check_name) (defScope s_check_name) .none kV_check_name dc_check_name pm_check_name an_check_name cd_check_name ct_check_name), sl_check_name⟩)
    (c_check_name : PySem.W.codeIn K cd_check_name "check_name" = true)
    (k_check_name : PySem.W.keepIn K (.ref a_check_name) = true)
    (n_check_day : PySem.W.nsIn K mainGlobals "check_day" = some (some (.ref a_check_day)))
    (l_check_day : K.lookup a_check_day = some ⟨oc_check_day, od_check_day, .func (PySem.W.fnOf "check_day" "check_day" (defArgs s_check_day) (defBody s_check_day) (defScope s_check_day) .none kV_check_day dc_check_day pm_check_day an_check_day cd_check_day ct_check_day), sl_check_day⟩)
    (c_check_day : PySem.W.codeIn K cd_check_day "check_day" = true)
    (k_check_day : PySem.W.keepIn K (.ref a_check_day) = true)
    (n_check_worth : PySem.W.nsIn K mainGlobals "check_worth" = some (some (.ref a_check_worth)))
    (l_check_worth : K.lookup a_check_worth = some ⟨oc_check_worth, od_check_worth, .func (PySem.W.fnOf "check_worth" "check_worth" (defArgs s_check_worth) (defBody s_check_worth) (defScope s_check_worth) .none kV_check_worth dc_check_worth pm_check_worth an_check_worth cd_check_worth ct_check_worth), sl_check_worth⟩)
    (c_check_worth : PySem.W.codeIn K cd_check_worth "check_worth" = true)
    (k_check_worth : PySem.W.keepIn K (.ref a_check_worth) = true)
    (n_Calls_init : PySem.W.findIn K (.ref C_Calls) "__init__" = some (some (.ref a_Calls_init)))
    (i_Calls_init : PySem.W.isFn K (.ref a_Calls_init) = true)
    (l_Calls_init : K.lookup a_Calls_init = some ⟨oc_Calls_init, od_Calls_init, .func (PySem.W.fnOf "__init__" "Calls.__init__" (defArgs s_Calls_init) (defBody s_Calls_init) (defScope s_Calls_init) .none kV_Calls_init dc_Calls_init pm_Calls_init an_Calls_init cd_Calls_init ct_Calls_init), sl_Calls_init⟩)
    (c_Calls_init : PySem.W.codeIn K cd_Calls_init "Calls.__init__" = true)
    (k_Calls_init : PySem.W.keepIn K (.ref a_Calls_init) = true)
    (n_Calls_len : PySem.W.findIn K (.ref C_Calls) "__len__" = some (some (.ref a_Calls_len)))
    (i_Calls_len : PySem.W.isFn K (.ref a_Calls_len) = true)
    (l_Calls_len : K.lookup a_Calls_len = some ⟨oc_Calls_len, od_Calls_len, .func (PySem.W.fnOf "__len__" "Calls.__len__" (defArgs s_Calls_len) (defBody s_Calls_len) (defScope s_Calls_len) .none kV_Calls_len dc_Calls_len pm_Calls_len an_Calls_len cd_Calls_len ct_Calls_len), sl_Calls_len⟩)
    (c_Calls_len : PySem.W.codeIn K cd_Calls_len "Calls.__len__" = true)
    (k_Calls_len : PySem.W.keepIn K (.ref a_Calls_len) = true)
    (n_Calls_tell : PySem.W.findIn K (.ref C_Calls) "tell" = some (some (.ref a_Calls_tell)))
    (i_Calls_tell : PySem.W.isFn K (.ref a_Calls_tell) = true)
    (l_Calls_tell : K.lookup a_Calls_tell = some ⟨oc_Calls_tell, od_Calls_tell, .func (PySem.W.fnOf "tell" "Calls.tell" (defArgs s_Calls_tell) (defBody s_Calls_tell) (defScope s_Calls_tell) .none kV_Calls_tell dc_Calls_tell pm_Calls_tell an_Calls_tell cd_Calls_tell ct_Calls_tell), sl_Calls_tell⟩)
    (c_Calls_tell : PySem.W.codeIn K cd_Calls_tell "Calls.tell" = true)
    (k_Calls_tell : PySem.W.keepIn K (.ref a_Calls_tell) = true)
    (n_Calls_worth : PySem.W.findIn K (.ref C_Calls) "worth" = some (some (.ref a_Calls_worth)))
    (i_Calls_worth : PySem.W.isFn K (.ref a_Calls_worth) = true)
    (l_Calls_worth : K.lookup a_Calls_worth = some ⟨oc_Calls_worth, od_Calls_worth, .func (PySem.W.fnOf "worth" "Calls.worth" (defArgs s_Calls_worth) (defBody s_Calls_worth) (defScope s_Calls_worth) (.ref T_Calls_worth) kV_Calls_worth dc_Calls_worth pm_Calls_worth an_Calls_worth cd_Calls_worth ct_Calls_worth), sl_Calls_worth⟩)
    (lT_Calls_worth : K.lookup T_Calls_worth = some ⟨oT_Calls_worth, dT_Calls_worth, .seq ([Value.none] : List Value).toArray nT_Calls_worth, sT_Calls_worth⟩)
    (c_Calls_worth : PySem.W.codeIn K cd_Calls_worth "Calls.worth" = true)
    (k_Calls_worth : PySem.W.keepIn K (.ref a_Calls_worth) = true)
    (n_Calls_turns : PySem.W.findIn K (.ref C_Calls) "turns" = some (some (.ref a_Calls_turns)))
    (i_Calls_turns : PySem.W.isFn K (.ref a_Calls_turns) = true)
    (l_Calls_turns : K.lookup a_Calls_turns = some ⟨oc_Calls_turns, od_Calls_turns, .func (PySem.W.fnOf "turns" "Calls.turns" (defArgs s_Calls_turns) (defBody s_Calls_turns) (defScope s_Calls_turns) (.ref T_Calls_turns) kV_Calls_turns dc_Calls_turns pm_Calls_turns an_Calls_turns cd_Calls_turns ct_Calls_turns), sl_Calls_turns⟩)
    (lT_Calls_turns : K.lookup T_Calls_turns = some ⟨oT_Calls_turns, dT_Calls_turns, .seq ([Value.none] : List Value).toArray nT_Calls_turns, sT_Calls_turns⟩)
    (c_Calls_turns : PySem.W.codeIn K cd_Calls_turns "Calls.turns" = true)
    (k_Calls_turns : PySem.W.keepIn K (.ref a_Calls_turns) = true)
    (n_Calls_tellings : PySem.W.findIn K (.ref C_Calls) "tellings" = some (some (.ref a_Calls_tellings)))
    (i_Calls_tellings : PySem.W.isFn K (.ref a_Calls_tellings) = true)
    (l_Calls_tellings : K.lookup a_Calls_tellings = some ⟨oc_Calls_tellings, od_Calls_tellings, .func (PySem.W.fnOf "tellings" "Calls.tellings" (defArgs s_Calls_tellings) (defBody s_Calls_tellings) (defScope s_Calls_tellings) (.ref T_Calls_tellings) kV_Calls_tellings dc_Calls_tellings pm_Calls_tellings an_Calls_tellings cd_Calls_tellings ct_Calls_tellings), sl_Calls_tellings⟩)
    (lT_Calls_tellings : K.lookup T_Calls_tellings = some ⟨oT_Calls_tellings, dT_Calls_tellings, .seq ([Value.none] : List Value).toArray nT_Calls_tellings, sT_Calls_tellings⟩)
    (c_Calls_tellings : PySem.W.codeIn K cd_Calls_tellings "Calls.tellings" = true)
    (k_Calls_tellings : PySem.W.keepIn K (.ref a_Calls_tellings) = true)
    (n_Calls_worths_by_day : PySem.W.findIn K (.ref C_Calls) "worths_by_day" = some (some (.ref a_Calls_worths_by_day)))
    (i_Calls_worths_by_day : PySem.W.isFn K (.ref a_Calls_worths_by_day) = true)
    (l_Calls_worths_by_day : K.lookup a_Calls_worths_by_day = some ⟨oc_Calls_worths_by_day, od_Calls_worths_by_day, .func (PySem.W.fnOf "worths_by_day" "Calls.worths_by_day" (defArgs s_Calls_worths_by_day) (defBody s_Calls_worths_by_day) (defScope s_Calls_worths_by_day) .none kV_Calls_worths_by_day dc_Calls_worths_by_day pm_Calls_worths_by_day an_Calls_worths_by_day cd_Calls_worths_by_day ct_Calls_worths_by_day), sl_Calls_worths_by_day⟩)
    (c_Calls_worths_by_day : PySem.W.codeIn K cd_Calls_worths_by_day "Calls.worths_by_day" = true)
    (k_Calls_worths_by_day : PySem.W.keepIn K (.ref a_Calls_worths_by_day) = true)
    (n_l_mixed : PySem.W.nsIn K mainGlobals "_law_mixed" = some (some (.ref a_l_mixed)))
    (l_l_mixed : K.lookup a_l_mixed = some ⟨oc_l_mixed, od_l_mixed, .func (PySem.W.fnOf "_law_mixed" "_law_mixed" (defArgs s_l_mixed) (defBody s_l_mixed) (defScope s_l_mixed) .none kV_l_mixed dc_l_mixed pm_l_mixed an_l_mixed cd_l_mixed ct_l_mixed), sl_l_mixed⟩)
    (c_l_mixed : PySem.W.codeIn K cd_l_mixed "_law_mixed" = true)
    (k_l_mixed : PySem.W.keepIn K (.ref a_l_mixed) = true)
    (n_l_next : PySem.W.nsIn K mainGlobals "_law_next" = some (some (.ref a_l_next)))
    (l_l_next : K.lookup a_l_next = some ⟨oc_l_next, od_l_next, .func (PySem.W.fnOf "_law_next" "_law_next" (defArgs s_l_next) (defBody s_l_next) (defScope s_l_next) .none kV_l_next dc_l_next pm_l_next an_l_next cd_l_next ct_l_next), sl_l_next⟩)
    (c_l_next : PySem.W.codeIn K cd_l_next "_law_next" = true)
    (k_l_next : PySem.W.keepIn K (.ref a_l_next) = true)
    (n_l_word : PySem.W.nsIn K mainGlobals "_law_word" = some (some (.ref a_l_word)))
    (l_l_word : K.lookup a_l_word = some ⟨oc_l_word, od_l_word, .func (PySem.W.fnOf "_law_word" "_law_word" (defArgs s_l_word) (defBody s_l_word) (defScope s_l_word) .none kV_l_word dc_l_word pm_l_word an_l_word cd_l_word ct_l_word), sl_l_word⟩)
    (c_l_word : PySem.W.codeIn K cd_l_word "_law_word" = true)
    (k_l_word : PySem.W.keepIn K (.ref a_l_word) = true)
    (n_l_words : PySem.W.nsIn K mainGlobals "_law_words" = some (some (.ref a_l_words)))
    (l_l_words : K.lookup a_l_words = some ⟨oc_l_words, od_l_words, .func (PySem.W.fnOf "_law_words" "_law_words" (defArgs s_l_words) (defBody s_l_words) (defScope s_l_words) .none kV_l_words dc_l_words pm_l_words an_l_words cd_l_words ct_l_words), sl_l_words⟩)
    (c_l_words : PySem.W.codeIn K cd_l_words "_law_words" = true)
    (k_l_words : PySem.W.keepIn K (.ref a_l_words) = true)
    (n_l_is : PySem.W.nsIn K mainGlobals "_law_is" = some (some (.ref a_l_is)))
    (l_l_is : K.lookup a_l_is = some ⟨oc_l_is, od_l_is, .func (PySem.W.fnOf "_law_is" "_law_is" (defArgs s_l_is) (defBody s_l_is) (defScope s_l_is) .none kV_l_is dc_l_is pm_l_is an_l_is cd_l_is ct_l_is), sl_l_is⟩)
    (c_l_is : PySem.W.codeIn K cd_l_is "_law_is" = true)
    (k_l_is : PySem.W.keepIn K (.ref a_l_is) = true)
    (n_l_edge : PySem.W.nsIn K mainGlobals "_law_edge" = some (some (.ref a_l_edge)))
    (l_l_edge : K.lookup a_l_edge = some ⟨oc_l_edge, od_l_edge, .func (PySem.W.fnOf "_law_edge" "_law_edge" (defArgs s_l_edge) (defBody s_l_edge) (defScope s_l_edge) .none kV_l_edge dc_l_edge pm_l_edge an_l_edge cd_l_edge ct_l_edge), sl_l_edge⟩)
    (c_l_edge : PySem.W.codeIn K cd_l_edge "_law_edge" = true)
    (k_l_edge : PySem.W.keepIn K (.ref a_l_edge) = true)
    (n_l_day : PySem.W.nsIn K mainGlobals "_law_day" = some (some (.ref a_l_day)))
    (l_l_day : K.lookup a_l_day = some ⟨oc_l_day, od_l_day, .func (PySem.W.fnOf "_law_day" "_law_day" (defArgs s_l_day) (defBody s_l_day) (defScope s_l_day) .none kV_l_day dc_l_day pm_l_day an_l_day cd_l_day ct_l_day), sl_l_day⟩)
    (c_l_day : PySem.W.codeIn K cd_l_day "_law_day" = true)
    (k_l_day : PySem.W.keepIn K (.ref a_l_day) = true)
    (n_l_due : PySem.W.nsIn K mainGlobals "_law_due" = some (some (.ref a_l_due)))
    (l_l_due : K.lookup a_l_due = some ⟨oc_l_due, od_l_due, .func (PySem.W.fnOf "_law_due" "_law_due" (defArgs s_l_due) (defBody s_l_due) (defScope s_l_due) .none kV_l_due dc_l_due pm_l_due an_l_due cd_l_due ct_l_due), sl_l_due⟩)
    (c_l_due : PySem.W.codeIn K cd_l_due "_law_due" = true)
    (k_l_due : PySem.W.keepIn K (.ref a_l_due) = true)
    (n_l_turns : PySem.W.nsIn K mainGlobals "_law_turns" = some (some (.ref a_l_turns)))
    (l_l_turns : K.lookup a_l_turns = some ⟨oc_l_turns, od_l_turns, .func (PySem.W.fnOf "_law_turns" "_law_turns" (defArgs s_l_turns) (defBody s_l_turns) (defScope s_l_turns) .none kV_l_turns dc_l_turns pm_l_turns an_l_turns cd_l_turns ct_l_turns), sl_l_turns⟩)
    (c_l_turns : PySem.W.codeIn K cd_l_turns "_law_turns" = true)
    (k_l_turns : PySem.W.keepIn K (.ref a_l_turns) = true)
    (n_l_row : PySem.W.nsIn K mainGlobals "_law_row" = some (some (.ref a_l_row)))
    (l_l_row : K.lookup a_l_row = some ⟨oc_l_row, od_l_row, .func (PySem.W.fnOf "_law_row" "_law_row" (defArgs s_l_row) (defBody s_l_row) (defScope s_l_row) .none kV_l_row dc_l_row pm_l_row an_l_row cd_l_row ct_l_row), sl_l_row⟩)
    (c_l_row : PySem.W.codeIn K cd_l_row "_law_row" = true)
    (k_l_row : PySem.W.keepIn K (.ref a_l_row) = true)
    (n_l_bad_name : PySem.W.nsIn K mainGlobals "_law_bad_name" = some (some (.ref a_l_bad_name)))
    (l_l_bad_name : K.lookup a_l_bad_name = some ⟨oc_l_bad_name, od_l_bad_name, .func (PySem.W.fnOf "_law_bad_name" "_law_bad_name" (defArgs s_l_bad_name) (defBody s_l_bad_name) (defScope s_l_bad_name) .none kV_l_bad_name dc_l_bad_name pm_l_bad_name an_l_bad_name cd_l_bad_name ct_l_bad_name), sl_l_bad_name⟩)
    (c_l_bad_name : PySem.W.codeIn K cd_l_bad_name "_law_bad_name" = true)
    (k_l_bad_name : PySem.W.keepIn K (.ref a_l_bad_name) = true)
    (n_l_bad_number : PySem.W.nsIn K mainGlobals "_law_bad_number" = some (some (.ref a_l_bad_number)))
    (l_l_bad_number : K.lookup a_l_bad_number = some ⟨oc_l_bad_number, od_l_bad_number, .func (PySem.W.fnOf "_law_bad_number" "_law_bad_number" (defArgs s_l_bad_number) (defBody s_l_bad_number) (defScope s_l_bad_number) .none kV_l_bad_number dc_l_bad_number pm_l_bad_number an_l_bad_number cd_l_bad_number ct_l_bad_number), sl_l_bad_number⟩)
    (c_l_bad_number : PySem.W.codeIn K cd_l_bad_number "_law_bad_number" = true)
    (k_l_bad_number : PySem.W.keepIn K (.ref a_l_bad_number) = true)
    (n_l_named : PySem.W.nsIn K mainGlobals "_law_named" = some (some (.ref a_l_named)))
    (l_l_named : K.lookup a_l_named = some ⟨oc_l_named, od_l_named, .func (PySem.W.fnOf "_law_named" "_law_named" (defArgs s_l_named) (defBody s_l_named) (defScope s_l_named) .none kV_l_named dc_l_named pm_l_named an_l_named cd_l_named ct_l_named), sl_l_named⟩)
    (c_l_named : PySem.W.codeIn K cd_l_named "_law_named" = true)
    (k_l_named : PySem.W.keepIn K (.ref a_l_named) = true)
    (n_l_asked : PySem.W.nsIn K mainGlobals "_law_asked" = some (some (.ref a_l_asked)))
    (l_l_asked : K.lookup a_l_asked = some ⟨oc_l_asked, od_l_asked, .func (PySem.W.fnOf "_law_asked" "_law_asked" (defArgs s_l_asked) (defBody s_l_asked) (defScope s_l_asked) .none kV_l_asked dc_l_asked pm_l_asked an_l_asked cd_l_asked ct_l_asked), sl_l_asked⟩)
    (c_l_asked : PySem.W.codeIn K cd_l_asked "_law_asked" = true)
    (k_l_asked : PySem.W.keepIn K (.ref a_l_asked) = true)
    (n_l_answer : PySem.W.nsIn K mainGlobals "_law_answer" = some (some (.ref a_l_answer)))
    (l_l_answer : K.lookup a_l_answer = some ⟨oc_l_answer, od_l_answer, .func (PySem.W.fnOf "_law_answer" "_law_answer" (defArgs s_l_answer) (defBody s_l_answer) (defScope s_l_answer) .none kV_l_answer dc_l_answer pm_l_answer an_l_answer cd_l_answer ct_l_answer), sl_l_answer⟩)
    (c_l_answer : PySem.W.codeIn K cd_l_answer "_law_answer" = true)
    (k_l_answer : PySem.W.keepIn K (.ref a_l_answer) = true)
    (n_l_refused : PySem.W.nsIn K mainGlobals "_law_refused" = some (some (.ref a_l_refused)))
    (l_l_refused : K.lookup a_l_refused = some ⟨oc_l_refused, od_l_refused, .func (PySem.W.fnOf "_law_refused" "_law_refused" (defArgs s_l_refused) (defBody s_l_refused) (defScope s_l_refused) .none kV_l_refused dc_l_refused pm_l_refused an_l_refused cd_l_refused ct_l_refused), sl_l_refused⟩)
    (c_l_refused : PySem.W.codeIn K cd_l_refused "_law_refused" = true)
    (k_l_refused : PySem.W.keepIn K (.ref a_l_refused) = true)
    (n_law : PySem.W.nsIn K mainGlobals "law" = some (some (.ref a_law)))
    (l_law : K.lookup a_law = some ⟨oc_law, od_law, .func (PySem.W.fnOf "law" "law" (defArgs s_law) (defBody s_law) (defScope s_law) .none kV_law dc_law pm_law an_law cd_law ct_law), sl_law⟩)
    (c_law : PySem.W.codeIn K cd_law "law" = true)
    (k_law : PySem.W.keepIn K (.ref a_law) = true)
    (n_SMALL_LETTERS : PySem.W.nsIn K mainGlobals "SMALL_LETTERS" = some (some (Value.str "abcdefghijklmnopqrstuvwxyz" k_SMALL_LETTERS)))
    (n_LONGEST_NAME : PySem.W.nsIn K mainGlobals "LONGEST_NAME" = some (some (Value.int 8 k_LONGEST_NAME)))
    (n_MOST_DAY : PySem.W.nsIn K mainGlobals "MOST_DAY" = some (some (Value.int 9999 k_MOST_DAY)))
    (n_MOST_WORTH : PySem.W.nsIn K mainGlobals "MOST_WORTH" = some (some (Value.int 1000000 k_MOST_WORTH)))
    (n_MOST_TELLINGS : PySem.W.nsIn K mainGlobals "MOST_TELLINGS" = some (some (Value.int 300 k_MOST_TELLINGS)))
    (z_len : PySem.W.nsIn K mainGlobals "len" = some none)
    (z_range : PySem.W.nsIn K mainGlobals "range" = some none)
    (z_max : PySem.W.nsIn K mainGlobals "max" = some none)
    (z_min : PySem.W.nsIn K mainGlobals "min" = some none)
    (z_isinstance : PySem.W.nsIn K mainGlobals "isinstance" = some none)
    (z_all : PySem.W.nsIn K mainGlobals "all" = some none)
    (z_str : PySem.W.nsIn K mainGlobals "str" = some none)
    (z_bool : PySem.W.nsIn K mainGlobals "bool" = some none)
    (z_int : PySem.W.nsIn K mainGlobals "int" = some none)
    (z_list : PySem.W.nsIn K mainGlobals "list" = some none)
    (z_sorted : PySem.W.nsIn K mainGlobals "sorted" = some none)
    (z_set : PySem.W.nsIn K mainGlobals "set" = some none)
    (z_ValueError : PySem.W.nsIn K mainGlobals "ValueError" = some none) : ∃ t : Ad, Env K mg t := by
  have F_is_made_of := fun_mk (st := s_is_made_of) l_is_made_of c_is_made_of k_is_made_of
  have B_is_made_of := F_is_made_of.binds (ps := ["text", "signs"]) fun _ _ _ _ _ _ us hl => match us, hl with | [_, _], _ => rfl
  have F_is_word := fun_mk (st := s_is_word) l_is_word c_is_word k_is_word
  have B_is_word := F_is_word.binds (ps := ["text"]) fun _ _ _ _ _ _ us hl => match us, hl with | [_], _ => rfl
  have F_is_name := fun_mk (st := s_is_name) l_is_name c_is_name k_is_name
  have B_is_name := F_is_name.binds (ps := ["text"]) fun _ _ _ _ _ _ us hl => match us, hl with | [_], _ => rfl
  have F_is_number := fun_mk (st := s_is_number) l_is_number c_is_number k_is_number
  have B_is_number := F_is_number.binds (ps := ["number"]) fun _ _ _ _ _ _ us hl => match us, hl with | [_], _ => rfl
  have F_is_within := fun_mk (st := s_is_within) l_is_within c_is_within k_is_within
  have B_is_within := F_is_within.binds (ps := ["number", "least", "most"]) fun _ _ _ _ _ _ us hl => match us, hl with | [_, _, _], _ => rfl
  have F_is_day := fun_mk (st := s_is_day) l_is_day c_is_day k_is_day
  have B_is_day := F_is_day.binds (ps := ["number"]) fun _ _ _ _ _ _ us hl => match us, hl with | [_], _ => rfl
  have F_is_worth := fun_mk (st := s_is_worth) l_is_worth c_is_worth k_is_worth
  have B_is_worth := F_is_worth.binds (ps := ["number"]) fun _ _ _ _ _ _ us hl => match us, hl with | [_], _ => rfl
  have F_check_name := fun_mk (st := s_check_name) l_check_name c_check_name k_check_name
  have B_check_name := F_check_name.binds (ps := ["text"]) fun _ _ _ _ _ _ us hl => match us, hl with | [_], _ => rfl
  have F_check_day := fun_mk (st := s_check_day) l_check_day c_check_day k_check_day
  have B_check_day := F_check_day.binds (ps := ["number"]) fun _ _ _ _ _ _ us hl => match us, hl with | [_], _ => rfl
  have F_check_worth := fun_mk (st := s_check_worth) l_check_worth c_check_worth k_check_worth
  have B_check_worth := F_check_worth.binds (ps := ["number"]) fun _ _ _ _ _ _ us hl => match us, hl with | [_], _ => rfl
  have F_Calls_init := fun_mk (st := s_Calls_init) l_Calls_init c_Calls_init k_Calls_init
  have B_Calls_init := F_Calls_init.binds (ps := ["self"]) fun _ _ _ _ _ _ us hl => match us, hl with | [_], _ => rfl
  have F_Calls_len := fun_mk (st := s_Calls_len) l_Calls_len c_Calls_len k_Calls_len
  have B_Calls_len := F_Calls_len.binds (ps := ["self"]) fun _ _ _ _ _ _ us hl => match us, hl with | [_], _ => rfl
  have F_Calls_tell := fun_mk (st := s_Calls_tell) l_Calls_tell c_Calls_tell k_Calls_tell
  have B_Calls_tell := F_Calls_tell.binds (ps := ["self", "town", "kind", "day", "worth"]) fun _ _ _ _ _ _ us hl => match us, hl with | [_, _, _, _, _], _ => rfl
  have F_Calls_worth := funD_mk (st := s_Calls_worth) (ds := [Value.none]) l_Calls_worth c_Calls_worth k_Calls_worth lT_Calls_worth
  have B_Calls_worth := F_Calls_worth.binds (ps := ["self", "town", "kind", "day", "known"]) fun _ _ _ _ _ _ _ us hl => match us, hl with | [_, _, _, _, _], _ => ⟨_, rfl, rfl⟩
  have BD_Calls_worth := F_Calls_worth.bindsD (ps := ["self", "town", "kind", "day", "known"]) (n := 4) rfl fun _ _ _ _ _ _ _ us hl => match us, hl with | [_, _, _, _], _ => ⟨_, rfl, rfl⟩
  have KB_Calls_worth := F_Calls_worth.kb (ps := ["self", "town", "kind", "day", "known"]) (ks := ["known"]) (n := 4) fun _ _ _ _ _ _ _ us ws h1 h2 => match us, ws, h1, h2 with | [_, _, _, _], [_], _, _ => ⟨_, rfl, rfl⟩
  have F_Calls_turns := funD_mk (st := s_Calls_turns) (ds := [Value.none]) l_Calls_turns c_Calls_turns k_Calls_turns lT_Calls_turns
  have B_Calls_turns := F_Calls_turns.binds (ps := ["self", "town", "kind", "known"]) fun _ _ _ _ _ _ _ us hl => match us, hl with | [_, _, _, _], _ => ⟨_, rfl, rfl⟩
  have BD_Calls_turns := F_Calls_turns.bindsD (ps := ["self", "town", "kind", "known"]) (n := 3) rfl fun _ _ _ _ _ _ _ us hl => match us, hl with | [_, _, _], _ => ⟨_, rfl, rfl⟩
  have KB_Calls_turns := F_Calls_turns.kb (ps := ["self", "town", "kind", "known"]) (ks := ["known"]) (n := 3) fun _ _ _ _ _ _ _ us ws h1 h2 => match us, ws, h1, h2 with | [_, _, _], [_], _, _ => ⟨_, rfl, rfl⟩
  have F_Calls_tellings := funD_mk (st := s_Calls_tellings) (ds := [Value.none]) l_Calls_tellings c_Calls_tellings k_Calls_tellings lT_Calls_tellings
  have B_Calls_tellings := F_Calls_tellings.binds (ps := ["self", "known"]) fun _ _ _ _ _ _ _ us hl => match us, hl with | [_, _], _ => ⟨_, rfl, rfl⟩
  have BD_Calls_tellings := F_Calls_tellings.bindsD (ps := ["self", "known"]) (n := 1) rfl fun _ _ _ _ _ _ _ us hl => match us, hl with | [_], _ => ⟨_, rfl, rfl⟩
  have KB_Calls_tellings := F_Calls_tellings.kb (ps := ["self", "known"]) (ks := ["known"]) (n := 1) fun _ _ _ _ _ _ _ us ws h1 h2 => match us, ws, h1, h2 with | [_], [_], _, _ => ⟨_, rfl, rfl⟩
  have F_Calls_worths_by_day := fun_mk (st := s_Calls_worths_by_day) l_Calls_worths_by_day c_Calls_worths_by_day k_Calls_worths_by_day
  have B_Calls_worths_by_day := F_Calls_worths_by_day.binds (ps := ["self", "town", "kind", "known"]) fun _ _ _ _ _ _ us hl => match us, hl with | [_, _, _, _], _ => rfl
  have F_l_mixed := fun_mk (st := s_l_mixed) l_l_mixed c_l_mixed k_l_mixed
  have B_l_mixed := F_l_mixed.binds (ps := ["_law_cell", "_law_k"]) fun _ _ _ _ _ _ us hl => match us, hl with | [_, _], _ => rfl
  have F_l_next := fun_mk (st := s_l_next) l_l_next c_l_next k_l_next
  have B_l_next := F_l_next.binds (ps := ["_law_draw", "_law_size"]) fun _ _ _ _ _ _ us hl => match us, hl with | [_, _], _ => rfl
  have F_l_word := fun_mk (st := s_l_word) l_l_word c_l_word k_l_word
  have B_l_word := F_l_word.binds (ps := ["_law_draw"]) fun _ _ _ _ _ _ us hl => match us, hl with | [_], _ => rfl
  have F_l_words := fun_mk (st := s_l_words) l_l_words c_l_words k_l_words
  have B_l_words := F_l_words.binds (ps := ["_law_draw", "_law_many"]) fun _ _ _ _ _ _ us hl => match us, hl with | [_, _], _ => rfl
  have F_l_is := fun_mk (st := s_l_is) l_l_is c_l_is k_l_is
  have B_l_is := F_l_is.binds (ps := ["_law_found", "_law_due_here"]) fun _ _ _ _ _ _ us hl => match us, hl with | [_, _], _ => rfl
  have F_l_edge := fun_mk (st := s_l_edge) l_l_edge c_l_edge k_l_edge
  have B_l_edge := F_l_edge.binds (ps := ["_law_draw", "_law_most"]) fun _ _ _ _ _ _ us hl => match us, hl with | [_, _], _ => rfl
  have F_l_day := fun_mk (st := s_l_day) l_l_day c_l_day k_l_day
  have B_l_day := F_l_day.binds (ps := ["_law_draw", "_law_days"]) fun _ _ _ _ _ _ us hl => match us, hl with | [_, _], _ => rfl
  have F_l_due := fun_mk (st := s_l_due) l_l_due c_l_due k_l_due
  have B_l_due := F_l_due.binds (ps := ["_law_rows", "_law_town", "_law_kind", "_law_day_here"]) fun _ _ _ _ _ _ us hl => match us, hl with | [_, _, _, _], _ => rfl
  have F_l_turns := fun_mk (st := s_l_turns) l_l_turns c_l_turns k_l_turns
  have B_l_turns := F_l_turns.binds (ps := ["_law_rows", "_law_town", "_law_kind"]) fun _ _ _ _ _ _ us hl => match us, hl with | [_, _, _], _ => rfl
  have F_l_row := fun_mk (st := s_l_row) l_l_row c_l_row k_l_row
  have B_l_row := F_l_row.binds (ps := ["_law_draw", "_law_towns", "_law_kinds", "_law_rows"]) fun _ _ _ _ _ _ us hl => match us, hl with | [_, _, _, _], _ => rfl
  have F_l_bad_name := fun_mk (st := s_l_bad_name) l_l_bad_name c_l_bad_name k_l_bad_name
  have B_l_bad_name := F_l_bad_name.binds (ps := ["_law_draw", "_law_word_here"]) fun _ _ _ _ _ _ us hl => match us, hl with | [_, _], _ => rfl
  have F_l_bad_number := fun_mk (st := s_l_bad_number) l_l_bad_number c_l_bad_number k_l_bad_number
  have B_l_bad_number := F_l_bad_number.binds (ps := ["_law_draw", "_law_most"]) fun _ _ _ _ _ _ us hl => match us, hl with | [_, _], _ => rfl
  have F_l_named := fun_mk (st := s_l_named) l_l_named c_l_named k_l_named
  have B_l_named := F_l_named.binds (ps := ["_law_e"]) fun _ _ _ _ _ _ us hl => match us, hl with | [_], _ => rfl
  have F_l_asked := fun_mk (st := s_l_asked) l_l_asked c_l_asked k_l_asked
  have B_l_asked := F_l_asked.binds (ps := ["_law_calls", "_law_way", "_law_parts"]) fun _ _ _ _ _ _ us hl => match us, hl with | [_, _, _], _ => rfl
  have F_l_answer := fun_mk (st := s_l_answer) l_l_answer c_l_answer k_l_answer
  have B_l_answer := F_l_answer.binds (ps := ["_law_way", "_law_parts", "_law_rows"]) fun _ _ _ _ _ _ us hl => match us, hl with | [_, _, _], _ => rfl
  have F_l_refused := fun_mk (st := s_l_refused) l_l_refused c_l_refused k_l_refused
  have B_l_refused := F_l_refused.binds (ps := ["_law_draw", "_law_calls", "_law_rows", "_law_way", "_law_parts"]) fun _ _ _ _ _ _ us hl => match us, hl with | [_, _, _, _, _], _ => rfl
  have F_law := fun_mk (st := s_law) l_law c_law k_law
  have B_law := F_law.binds (ps := ["_law_script"]) fun _ _ _ _ _ _ us hl => match us, hl with | [_], _ => rfl
  exact ⟨⟨C_Calls, C_NoName, C_NoDay, C_NoBook, C_NoWorth, C_TooMany, C_NoMany, C_NoAmount, C_CoinError, a_is_made_of, PySem.W.fnOf _ _ (defArgs s_is_made_of) (defBody s_is_made_of) (defScope s_is_made_of) .none kV_is_made_of dc_is_made_of pm_is_made_of an_is_made_of cd_is_made_of ct_is_made_of, a_is_word, PySem.W.fnOf _ _ (defArgs s_is_word) (defBody s_is_word) (defScope s_is_word) .none kV_is_word dc_is_word pm_is_word an_is_word cd_is_word ct_is_word, a_is_name, PySem.W.fnOf _ _ (defArgs s_is_name) (defBody s_is_name) (defScope s_is_name) .none kV_is_name dc_is_name pm_is_name an_is_name cd_is_name ct_is_name, a_is_number, PySem.W.fnOf _ _ (defArgs s_is_number) (defBody s_is_number) (defScope s_is_number) .none kV_is_number dc_is_number pm_is_number an_is_number cd_is_number ct_is_number, a_is_within, PySem.W.fnOf _ _ (defArgs s_is_within) (defBody s_is_within) (defScope s_is_within) .none kV_is_within dc_is_within pm_is_within an_is_within cd_is_within ct_is_within, a_is_day, PySem.W.fnOf _ _ (defArgs s_is_day) (defBody s_is_day) (defScope s_is_day) .none kV_is_day dc_is_day pm_is_day an_is_day cd_is_day ct_is_day, a_is_worth, PySem.W.fnOf _ _ (defArgs s_is_worth) (defBody s_is_worth) (defScope s_is_worth) .none kV_is_worth dc_is_worth pm_is_worth an_is_worth cd_is_worth ct_is_worth, a_check_name, PySem.W.fnOf _ _ (defArgs s_check_name) (defBody s_check_name) (defScope s_check_name) .none kV_check_name dc_check_name pm_check_name an_check_name cd_check_name ct_check_name, a_check_day, PySem.W.fnOf _ _ (defArgs s_check_day) (defBody s_check_day) (defScope s_check_day) .none kV_check_day dc_check_day pm_check_day an_check_day cd_check_day ct_check_day, a_check_worth, PySem.W.fnOf _ _ (defArgs s_check_worth) (defBody s_check_worth) (defScope s_check_worth) .none kV_check_worth dc_check_worth pm_check_worth an_check_worth cd_check_worth ct_check_worth, a_Calls_init, PySem.W.fnOf _ _ (defArgs s_Calls_init) (defBody s_Calls_init) (defScope s_Calls_init) .none kV_Calls_init dc_Calls_init pm_Calls_init an_Calls_init cd_Calls_init ct_Calls_init, a_Calls_len, PySem.W.fnOf _ _ (defArgs s_Calls_len) (defBody s_Calls_len) (defScope s_Calls_len) .none kV_Calls_len dc_Calls_len pm_Calls_len an_Calls_len cd_Calls_len ct_Calls_len, a_Calls_tell, PySem.W.fnOf _ _ (defArgs s_Calls_tell) (defBody s_Calls_tell) (defScope s_Calls_tell) .none kV_Calls_tell dc_Calls_tell pm_Calls_tell an_Calls_tell cd_Calls_tell ct_Calls_tell, a_Calls_worth, PySem.W.fnOf _ _ (defArgs s_Calls_worth) (defBody s_Calls_worth) (defScope s_Calls_worth) (.ref T_Calls_worth) kV_Calls_worth dc_Calls_worth pm_Calls_worth an_Calls_worth cd_Calls_worth ct_Calls_worth, a_Calls_turns, PySem.W.fnOf _ _ (defArgs s_Calls_turns) (defBody s_Calls_turns) (defScope s_Calls_turns) (.ref T_Calls_turns) kV_Calls_turns dc_Calls_turns pm_Calls_turns an_Calls_turns cd_Calls_turns ct_Calls_turns, a_Calls_tellings, PySem.W.fnOf _ _ (defArgs s_Calls_tellings) (defBody s_Calls_tellings) (defScope s_Calls_tellings) (.ref T_Calls_tellings) kV_Calls_tellings dc_Calls_tellings pm_Calls_tellings an_Calls_tellings cd_Calls_tellings ct_Calls_tellings, a_Calls_worths_by_day, PySem.W.fnOf _ _ (defArgs s_Calls_worths_by_day) (defBody s_Calls_worths_by_day) (defScope s_Calls_worths_by_day) .none kV_Calls_worths_by_day dc_Calls_worths_by_day pm_Calls_worths_by_day an_Calls_worths_by_day cd_Calls_worths_by_day ct_Calls_worths_by_day, a_l_mixed, PySem.W.fnOf _ _ (defArgs s_l_mixed) (defBody s_l_mixed) (defScope s_l_mixed) .none kV_l_mixed dc_l_mixed pm_l_mixed an_l_mixed cd_l_mixed ct_l_mixed, a_l_next, PySem.W.fnOf _ _ (defArgs s_l_next) (defBody s_l_next) (defScope s_l_next) .none kV_l_next dc_l_next pm_l_next an_l_next cd_l_next ct_l_next, a_l_word, PySem.W.fnOf _ _ (defArgs s_l_word) (defBody s_l_word) (defScope s_l_word) .none kV_l_word dc_l_word pm_l_word an_l_word cd_l_word ct_l_word, a_l_words, PySem.W.fnOf _ _ (defArgs s_l_words) (defBody s_l_words) (defScope s_l_words) .none kV_l_words dc_l_words pm_l_words an_l_words cd_l_words ct_l_words, a_l_is, PySem.W.fnOf _ _ (defArgs s_l_is) (defBody s_l_is) (defScope s_l_is) .none kV_l_is dc_l_is pm_l_is an_l_is cd_l_is ct_l_is, a_l_edge, PySem.W.fnOf _ _ (defArgs s_l_edge) (defBody s_l_edge) (defScope s_l_edge) .none kV_l_edge dc_l_edge pm_l_edge an_l_edge cd_l_edge ct_l_edge, a_l_day, PySem.W.fnOf _ _ (defArgs s_l_day) (defBody s_l_day) (defScope s_l_day) .none kV_l_day dc_l_day pm_l_day an_l_day cd_l_day ct_l_day, a_l_due, PySem.W.fnOf _ _ (defArgs s_l_due) (defBody s_l_due) (defScope s_l_due) .none kV_l_due dc_l_due pm_l_due an_l_due cd_l_due ct_l_due, a_l_turns, PySem.W.fnOf _ _ (defArgs s_l_turns) (defBody s_l_turns) (defScope s_l_turns) .none kV_l_turns dc_l_turns pm_l_turns an_l_turns cd_l_turns ct_l_turns, a_l_row, PySem.W.fnOf _ _ (defArgs s_l_row) (defBody s_l_row) (defScope s_l_row) .none kV_l_row dc_l_row pm_l_row an_l_row cd_l_row ct_l_row, a_l_bad_name, PySem.W.fnOf _ _ (defArgs s_l_bad_name) (defBody s_l_bad_name) (defScope s_l_bad_name) .none kV_l_bad_name dc_l_bad_name pm_l_bad_name an_l_bad_name cd_l_bad_name ct_l_bad_name, a_l_bad_number, PySem.W.fnOf _ _ (defArgs s_l_bad_number) (defBody s_l_bad_number) (defScope s_l_bad_number) .none kV_l_bad_number dc_l_bad_number pm_l_bad_number an_l_bad_number cd_l_bad_number ct_l_bad_number, a_l_named, PySem.W.fnOf _ _ (defArgs s_l_named) (defBody s_l_named) (defScope s_l_named) .none kV_l_named dc_l_named pm_l_named an_l_named cd_l_named ct_l_named, a_l_asked, PySem.W.fnOf _ _ (defArgs s_l_asked) (defBody s_l_asked) (defScope s_l_asked) .none kV_l_asked dc_l_asked pm_l_asked an_l_asked cd_l_asked ct_l_asked, a_l_answer, PySem.W.fnOf _ _ (defArgs s_l_answer) (defBody s_l_answer) (defScope s_l_answer) .none kV_l_answer dc_l_answer pm_l_answer an_l_answer cd_l_answer ct_l_answer, a_l_refused, PySem.W.fnOf _ _ (defArgs s_l_refused) (defBody s_l_refused) (defScope s_l_refused) .none kV_l_refused dc_l_refused pm_l_refused an_l_refused cd_l_refused ct_l_refused, a_law, PySem.W.fnOf _ _ (defArgs s_law) (defBody s_law) (defScope s_law) .none kV_law dc_law pm_law an_law cd_law ct_law, k_SMALL_LETTERS, k_LONGEST_NAME, k_MOST_DAY, k_MOST_WORTH, k_MOST_TELLINGS⟩, ⟨⟨pg_Calls, hd_Calls, po_Calls, sa_Calls⟩, PySem.W.mg_of X G n_Calls, ⟨mk_Calls, n_Calls_init, i_Calls_init, kc_Calls⟩, no_Calls_rows, PySem.W.mg_of X G n_NoName, PySem.W.mg_of X G n_NoDay, PySem.W.mg_of X G n_NoBook, PySem.W.mg_of X G n_NoWorth, PySem.W.mg_of X G n_TooMany, PySem.W.mg_of X G n_NoMany, PySem.W.mg_of X G n_NoAmount, PySem.W.mg_of X G n_CoinError, ⟨⟨e0_NoName⟩, e1_NoName, e2_NoName, e3_NoName⟩, is_NoName_NoName, is_NoName_NoDay, is_NoName_NoWorth, is_NoName_NoBook, is_NoName_TooMany, is_NoName_NoMany, is_NoName_NoAmount, is_NoName_ValueError, ca_NoName_CoinError, ⟨⟨e0_NoDay⟩, e1_NoDay, e2_NoDay, e3_NoDay⟩, is_NoDay_NoName, is_NoDay_NoDay, is_NoDay_NoWorth, is_NoDay_NoBook, is_NoDay_TooMany, is_NoDay_NoMany, is_NoDay_NoAmount, is_NoDay_ValueError, ca_NoDay_CoinError, ⟨⟨e0_NoBook⟩, e1_NoBook, e2_NoBook, e3_NoBook⟩, is_NoBook_NoName, is_NoBook_NoDay, is_NoBook_NoWorth, is_NoBook_NoBook, is_NoBook_TooMany, is_NoBook_NoMany, is_NoBook_NoAmount, is_NoBook_ValueError, ca_NoBook_CoinError, F_is_made_of, B_is_made_of, k_is_made_of, PySem.W.mg_of X G n_is_made_of, F_is_word, B_is_word, k_is_word, PySem.W.mg_of X G n_is_word, F_is_name, B_is_name, k_is_name, PySem.W.mg_of X G n_is_name, F_is_number, B_is_number, k_is_number, PySem.W.mg_of X G n_is_number, F_is_within, B_is_within, k_is_within, PySem.W.mg_of X G n_is_within, F_is_day, B_is_day, k_is_day, PySem.W.mg_of X G n_is_day, F_is_worth, B_is_worth, k_is_worth, PySem.W.mg_of X G n_is_worth, F_check_name, B_check_name, k_check_name, PySem.W.mg_of X G n_check_name, F_check_day, B_check_day, k_check_day, PySem.W.mg_of X G n_check_day, F_check_worth, B_check_worth, k_check_worth, PySem.W.mg_of X G n_check_worth, F_Calls_init, B_Calls_init, F_Calls_len, B_Calls_len, ⟨n_Calls_len, i_Calls_len, k_Calls_len⟩, F_Calls_tell, B_Calls_tell, ⟨n_Calls_tell, i_Calls_tell, k_Calls_tell⟩, F_Calls_worth, B_Calls_worth, BD_Calls_worth, KB_Calls_worth, ⟨n_Calls_worth, i_Calls_worth, k_Calls_worth⟩, F_Calls_turns, B_Calls_turns, BD_Calls_turns, KB_Calls_turns, ⟨n_Calls_turns, i_Calls_turns, k_Calls_turns⟩, F_Calls_tellings, B_Calls_tellings, BD_Calls_tellings, KB_Calls_tellings, ⟨n_Calls_tellings, i_Calls_tellings, k_Calls_tellings⟩, F_Calls_worths_by_day, B_Calls_worths_by_day, ⟨n_Calls_worths_by_day, i_Calls_worths_by_day, k_Calls_worths_by_day⟩, F_l_mixed, B_l_mixed, k_l_mixed, PySem.W.mg_of X G n_l_mixed, F_l_next, B_l_next, k_l_next, PySem.W.mg_of X G n_l_next, F_l_word, B_l_word, k_l_word, PySem.W.mg_of X G n_l_word, F_l_words, B_l_words, k_l_words, PySem.W.mg_of X G n_l_words, F_l_is, B_l_is, k_l_is, PySem.W.mg_of X G n_l_is, F_l_edge, B_l_edge, k_l_edge, PySem.W.mg_of X G n_l_edge, F_l_day, B_l_day, k_l_day, PySem.W.mg_of X G n_l_day, F_l_due, B_l_due, k_l_due, PySem.W.mg_of X G n_l_due, F_l_turns, B_l_turns, k_l_turns, PySem.W.mg_of X G n_l_turns, F_l_row, B_l_row, k_l_row, PySem.W.mg_of X G n_l_row, F_l_bad_name, B_l_bad_name, k_l_bad_name, PySem.W.mg_of X G n_l_bad_name, F_l_bad_number, B_l_bad_number, k_l_bad_number, PySem.W.mg_of X G n_l_bad_number, F_l_named, B_l_named, k_l_named, PySem.W.mg_of X G n_l_named, F_l_asked, B_l_asked, k_l_asked, PySem.W.mg_of X G n_l_asked, F_l_answer, B_l_answer, k_l_answer, PySem.W.mg_of X G n_l_answer, F_l_refused, B_l_refused, k_l_refused, PySem.W.mg_of X G n_l_refused, F_law, B_law, k_law, PySem.W.mg_of X G n_law, PySem.W.mg_of X G n_SMALL_LETTERS, PySem.W.mg_of X G n_LONGEST_NAME, PySem.W.mg_of X G n_MOST_DAY, PySem.W.mg_of X G n_MOST_WORTH, PySem.W.mg_of X G n_MOST_TELLINGS, PySem.W.mg_none_of X G z_len, PySem.W.mg_none_of X G z_range, PySem.W.mg_none_of X G z_max, PySem.W.mg_none_of X G z_min, PySem.W.mg_none_of X G z_isinstance, PySem.W.mg_none_of X G z_all, PySem.W.mg_none_of X G z_str, PySem.W.mg_none_of X G z_bool, PySem.W.mg_none_of X G z_int, PySem.W.mg_none_of X G z_list, PySem.W.mg_none_of X G z_sorted, PySem.W.mg_none_of X G z_set, PySem.W.mg_none_of X G z_ValueError⟩⟩
def spMixed : Sp := fun vs H Q _ => ∃ (c k : Int), vs = [.int c, .int k] ∧ 0 ≤ k ∧ k < 1000 ∧ ∀ r : Int, 0 ≤ r → r < 2147483399 → Q (.int r) H
def spNext (K : PySem.W.Frag) : Sp := fun vs H Q _ => ∃ (d a : Addr) (ns : List Int) (z : Int), vs = [.ref d, .int z] ∧ DrawAt K H d a ns ∧ 0 < z ∧
  ∀ (r : Int) (H' : Hp), 0 ≤ r → r < z → DrawAt K H' d a ns → Keep d H H' → Q (.int r) H'
section
variable {P : Program} {w : World} {K : PySem.W.Frag} {mg : Str → Option Value} {base : Heap} {t : Ad}
theorem ok_mixed (T : Env K mg t) : FnOk P w K mg base CX0 1 t.a_l_mixed t.fd_l_mixed ["_law_cell", "_law_k"] spMixed := by
  refine T.f_l_mixed.okQ sc_l_mixed (fun vs H Q E h => ?_) (fun cdv A outer s H vs Q E hr h => ?_)
  · obtain ⟨c, k, rfl, _⟩ := h
    rfl
  · obtain ⟨c, k, rfl, k0, k1, q⟩ := h
    refine ⟨_, (q_pss_cons (q_ps_set (i := 2) sc_l_mixed.nd rfl (by first | exact Or.inl rfl | exact Or.inr (Or.inl rfl) | exact Or.inr rfl) (q_pe_op op_mod (q_pe_op op_pow (q_pe_op op_mod (q_pe_op op_mul (q_pe_op op_add (q_pe_op op_add (q_pe_op op_mod (q_pv 0) q_pe_int) (q_pe_op op_mul q_pe_int (q_pv 1))) q_pe_int) q_pe_int) q_pe_int) q_pe_int) q_pe_int))
      (q_pss_cons (q_ps_if (q_pt_cmpR op_lt (q_pv 0) (q_pe_op op_pow q_pe_int q_pe_int) (nomark _)) (q_pss_one (q_ps_ret (q_pv 2))) q_pss_nil)
      (q_pss_one (q_ps_ret (q_pe_op op_mod (q_pe_op op_add (q_pv 2) (q_pe_op op_mod (q_pe_op op_fdivL (q_pv 0) (q_pe_op op_pow q_pe_int q_pe_int)) (q_pe_op op_add q_pe_int (q_pe_op op_mul (q_pe_op op_add (q_pv 1) q_pe_int) q_pe_int)))) q_pe_int))))), ?_⟩
    have p1 : (0 : Int) < 2147483399 := by decide
    have a0 := Int.emod_nonneg c (show (2147483399 : Int) ≠ 0 by decide)
    have a1 := Int.emod_lt_of_pos c p1
    refine ⟨_, rfl, _, _, rfl, rfl, p1, _, rfl, _, _, rfl, rfl, .inl ⟨by decide, by decide⟩, _, _, rfl, rfl, _, _, rfl, rfl, _, _, rfl, rfl, .inl ⟨by omega, by omega⟩, _, _, rfl, rfl, p1, _, _, rfl, rfl, ⟨by decide, by decide, ?_⟩, _, _, rfl, rfl, p1, ?_⟩
    · have b0 := Int.emod_nonneg ((c % 2147483399 + 104729 * k + 11) * 48271) (show (2147483399 : Int) ≠ 0 by decide)
      have b1 := Int.emod_lt_of_pos ((c % 2147483399 + 104729 * k + 11) * 48271) p1
      have : (2 : Nat) ^ 64 = 18446744073709551616 := by decide
      omega
    refine ⟨_, rfl, _, _, rfl, rfl, ⟨by decide, by decide, by decide⟩, _, _, rfl, rfl, _, rfl, ?_⟩
    refine ite2 (fun _ => ?_) (fun _ => ?_)
    · exact ⟨_, rfl, q _ (Int.emod_nonneg _ (by decide)) (Int.emod_lt_of_pos _ p1)⟩
    · refine ⟨_, rfl, _, rfl, _, _, rfl, rfl, ⟨by decide, by decide, by decide⟩, _, _, rfl, rfl, ⟨by decide +kernel, by decide +kernel⟩, _, rfl, _, _, rfl, rfl, _, _, rfl, rfl, .inl ⟨by omega, by omega⟩, _, _, rfl, rfl, _, _, rfl, rfl, ?_, _, _, rfl, rfl, _, _, rfl, rfl, p1, ?_⟩
      · show (0 : Int) < 1 + (k + 1) * _
        omega
      · exact q _ (Int.emod_nonneg _ (by decide)) (Int.emod_lt_of_pos _ p1)
theorem ok_next (T : Env K mg t) : FnOk P w K mg base CX0 2 t.a_l_next t.fd_l_next ["_law_draw", "_law_size"] (spNext K) := by
  have G_l_mixed : FnOk P w K mg base CX0 1 t.a_l_mixed t.fd_l_mixed ["_law_cell", "_law_k"] spMixed := ok_mixed T
  refine T.f_l_next.okQ sc_l_next (fun vs H Q E h => ?_) (fun cdv A outer s H vs Q E hr h => ?_)
  · obtain ⟨d, a, ns, z, rfl, _⟩ := h
    rfl
  · obtain ⟨d, a, ns, z, rfl, D, hz, q⟩ := h
    have hr_l_mixed := hr
    obtain ⟨⟨n, n0, hd⟩, sc, hl⟩ := id D
    refine ⟨_, (q_pss_cons (q_ps_set (i := 2) sc_l_next.nd rfl (by first | exact Or.inl rfl | exact Or.inr (Or.inl rfl) | exact Or.inr rfl) (q_pe_ix ix_list (q_pv 0) q_pe_int (fun _ _ => rfl)))
      (q_pss_cons (q_ps_asg (q_pe_op op_add (q_pv 2) q_pe_int) (q_pg_sub (q_pv 0) q_pe_int set_list))
      (q_pss_cons (q_ps_set (i := 3) sc_l_next.nd rfl (by first | exact Or.inl rfl | exact Or.inr (Or.inl rfl) | exact Or.inr rfl) (q_pe_callB (call_max2 rfl) (by rfl) T.z_max (by decide +kernel) (q_pa_cons q_pe_int (q_pa_cons (q_pe_callB call_len_seq (by rfl) T.z_len PySem.boot_len (q_pa_cons (q_pe_ix ix_list (q_pv 0) q_pe_int (fun _ _ => rfl)) q_pa_nil star_Subscript)) q_pa_nil star_Call) star_Constant)))
      (q_pss_cons (q_ps_set (i := 4) sc_l_next.nd rfl (by first | exact Or.inl rfl | exact Or.inr (Or.inl rfl) | exact Or.inr rfl) q_pe_int)
      (q_pss_cons (q_ps_if (q_pt_cmpR (op_neD hr.units) (q_pe_ix ix_list (q_pv 0) q_pe_int (fun _ _ => rfl)) (q_pe_lst q_pa_nil) (nomark _)) (q_pss_one (q_ps_set (i := 4) sc_l_next.nd rfl (by first | exact Or.inl rfl | exact Or.inr (Or.inl rfl) | exact Or.inr rfl) (q_pe_ix ix_list (q_pe_ix ix_list (q_pv 0) q_pe_int (fun _ _ => rfl)) (q_pe_op op_mod (q_pv 2) (q_pv 3)) (fun _ _ => rfl)))) q_pss_nil)
      (q_pss_one (q_ps_ret (q_pe_op op_mod (q_pe_op op_fdiv (q_pe_call G_l_mixed hr_l_mixed (by rfl) T.mg_l_mixed T.kp_l_mixed T.b_l_mixed .nil pass0 (q_pa_cons (q_pv 4) (q_pa_cons (q_pe_op op_mod (q_pe_op op_fdiv (q_pv 2) (q_pv 3)) q_pe_int) q_pa_nil star_BinOp) star_Name)) q_pe_int) (q_pv 1))))))))), ?_⟩
    have hd1 : ∀ o, (upd H d o) d = some o := fun o => upd_same
    have k1 : Keep d H (upd H d (.lst [.ref a, .int (n + 1)])) := fun b o e nb => by rw [upd_ne nb]; exact e
    have sc1 : Scr K (upd H d (.lst [.ref a, .int (n + 1)])) a ns := sc.keep k1 (nofrz hd)
    have D1 : DrawAt K (upd H d (.lst [.ref a, .int (n + 1)])) d a ns := ⟨⟨n + 1, by omega, upd_same⟩, sc1, hl⟩
    refine ⟨_, rfl, d, _, _, _, rfl, rfl, SqL.of hd, rfl, ?_⟩
    refine ⟨_, rfl, _, _, rfl, rfl, _, rfl, d, _, _, 1, rfl, rfl, hd, rfl, ?_⟩
    refine ⟨_, rfl, d, _, _, _, rfl, rfl, SqL.of upd_same, rfl, a, _, rfl, .inl sc1.sq, _, _, rfl, ?_⟩
    have lm : ((ns.map V.int).length : Int) = (ns.length : Int) := by rw [List.length_map]
    rw [lm]
    generalize hm : (if (ns.length : Int) > 1 then (ns.length : Int) else 1) = m
    have m1 : 1 ≤ m ∧ m ≤ 63 ∧ (ns.length ≠ 0 → m = ns.length) := by
      rw [← hm]; split <;> omega
    refine ⟨_, rfl, d, _, _, _, rfl, rfl, SqL.of upd_same, rfl, (by decide), fun l hl' => ?_⟩
    have s2 : Same (upd H d (.lst [.ref a, .int (n + 1)])) (upd (upd H d (.lst [.ref a, .int (n + 1)])) l (.lst [])) := same_new hl'
    have D2 := D1.same s2
    have k2 : Keep d H (upd (upd H d (.lst [.ref a, .int (n + 1)])) l (.lst [])) := k1.trans (.of s2)
    have hd2 : (upd (upd H d (.lst [.ref a, .int (n + 1)])) l (.lst [])) d = some (.lst [.ref a, .int (n + 1)]) := s2 _ _ upd_same
    refine ⟨.list (ns.map .int), .list [], .lst D2.sq (dp_ints ns), .lst (SqL.of upd_same) .nil, shaped_ints ns, rfl, _, rfl, ?_⟩
    rw [eqv_nil]
    have z127 : ((0 : Int) < 127 ∧ (127 : Int) < 1073741824) := ⟨by decide, by decide⟩
    cases ns with
    | nil =>
      refine iteF ?_
      refine ⟨_, rfl, _, rfl, _, rfl, _, _, rfl, rfl, ⟨by omega, by omega⟩, _, _, rfl, rfl, (by decide : (0 : Int) < 127), _, _, rfl, Int.emod_nonneg _ (by decide), Int.lt_trans (Int.emod_lt_of_pos _ (by decide)) (by decide), fun r r0 r1 => ?_⟩
      refine ⟨_, _, rfl, rfl, ⟨by decide, by decide⟩, _, rfl, _, _, rfl, rfl, hz, ?_⟩
      exact q _ _ (Int.emod_nonneg _ (by omega)) (Int.emod_lt_of_pos _ hz) D2 k2
    | cons x xs =>
      refine iteT ?_
      have hmm : m = ((x :: xs).length : Int) := m1.2.2 (by simp)
      have j0 := Int.emod_nonneg n (show m ≠ 0 by omega)
      have j1 := Int.emod_lt_of_pos n (show 0 < m by omega)
      have hj : (n % m).toNat < (x :: xs).length := by omega
      have hat : atI ((x :: xs).map V.int) (n % m) = some (.int ((x :: xs)[(n % m).toNat]'hj)) := at_of (j := (n % m).toNat) (by omega) (by rw [List.getElem?_map, List.getElem?_eq_getElem hj]; rfl)
      refine ⟨_, rfl, d, _, _, _, rfl, rfl, SqL.of hd2, rfl, _, rfl, _, rfl, _, _, rfl, rfl, (show (0 : Int) < m by omega), a, _, _, _, rfl, rfl, D2.sq, hat, ?_⟩
      refine ⟨_, rfl, _, rfl, _, rfl, _, _, rfl, rfl, ⟨by omega, by omega⟩, _, _, rfl, rfl, (by decide : (0 : Int) < 127), _, _, rfl, Int.emod_nonneg _ (by decide), Int.lt_trans (Int.emod_lt_of_pos _ (by decide)) (by decide), fun r r0 r1 => ?_⟩
      refine ⟨_, _, rfl, rfl, ⟨by decide, by decide⟩, _, rfl, _, _, rfl, rfl, hz, ?_⟩
      exact q _ _ (Int.emod_nonneg _ (by omega)) (Int.emod_lt_of_pos _ hz) D2 k2
def spWord (K : PySem.W.Frag) : Sp := fun vs H Q _ => ∃ (d a : Addr) (ns : List Int), vs = [.ref d] ∧ DrawAt K H d a ns ∧
  ∀ (x : Str) (H' : Hp), nameOk x = true → DrawAt K H' d a ns → Keep d H H' → Q (.str x) H'
def words14 : List Str := ["by", "in", "at", "made", "paid", "day", "least", "greatest", "for", "none", "call", "held", "a", "zz"]
theorem ok_word (T : Env K mg t) : FnOk P w K mg base CX0 3 t.a_l_word t.fd_l_word ["_law_draw"] (spWord K) := by
  have G_l_next : FnOk P w K mg base CX0 2 t.a_l_next t.fd_l_next ["_law_draw", "_law_size"] (spNext K) := ok_next T
  refine T.f_l_word.okQ sc_l_word (fun vs H Q E h => ?_) (fun cdv A outer s H vs Q E hr h => ?_)
  · obtain ⟨d, a, ns, rfl, _⟩ := h
    rfl
  · obtain ⟨d, a, ns, rfl, D, q⟩ := h
    have hr_l_next := hr
    refine ⟨_, (q_pss_cons (q_ps_set (i := 1) sc_l_word.nd rfl (by first | exact Or.inl rfl | exact Or.inr (Or.inl rfl) | exact Or.inr rfl) (q_pe_lst (q_pa_cons q_pe_str (q_pa_cons q_pe_str (q_pa_cons q_pe_str (q_pa_cons q_pe_str (q_pa_cons q_pe_str (q_pa_cons q_pe_str (q_pa_cons q_pe_str (q_pa_cons q_pe_str (q_pa_cons q_pe_str (q_pa_cons q_pe_str (q_pa_cons q_pe_str (q_pa_cons q_pe_str (q_pa_cons q_pe_str (q_pa_cons q_pe_str q_pa_nil star_Constant) star_Constant) star_Constant) star_Constant) star_Constant) star_Constant) star_Constant) star_Constant) star_Constant) star_Constant) star_Constant) star_Constant) star_Constant) star_Constant)))
      (q_pss_cons (q_ps_if (q_pt_cmpR op_eq (q_pe_call G_l_next hr_l_next (by rfl) T.mg_l_next T.kp_l_next T.b_l_next .nil pass0 (q_pa_cons (q_pv 0) (q_pa_cons q_pe_int q_pa_nil star_Constant) star_Name)) q_pe_int (nomark _)) (q_pss_one (q_ps_ret (q_pe_ix ix_list (q_pv 1) (q_pe_call G_l_next hr_l_next (by rfl) T.mg_l_next T.kp_l_next T.b_l_next .nil pass0 (q_pa_cons (q_pv 0) (q_pa_cons (q_pe_callB call_len_seq (by rfl) T.z_len PySem.boot_len (q_pa_cons (q_pv 1) q_pa_nil star_Name)) q_pa_nil star_Call) star_Name)) (fun _ _ => rfl)))) q_pss_nil)
      (q_pss_cons (q_ps_set (i := 2) sc_l_word.nd rfl (by first | exact Or.inl rfl | exact Or.inr (Or.inl rfl) | exact Or.inr rfl) q_pe_str)
      (q_pss_cons (q_ps_for PassesOwn.never rfl (q_pi_range1 (by rfl) T.z_range (q_pa_cons (q_pe_op op_add q_pe_int (q_pe_call G_l_next hr_l_next (by rfl) T.mg_l_next T.kp_l_next T.b_l_next .nil pass0 (q_pa_cons (q_pv 0) (q_pa_cons q_pe_int q_pa_nil star_Constant) star_Name))) q_pa_nil star_BinOp)) (q_pg_name (i := 3) sc_l_word.nd rfl (by first | exact Or.inl rfl | exact Or.inr (Or.inl rfl) | exact Or.inr rfl))
      (q_pss_one (q_ps_set (i := 2) sc_l_word.nd rfl (by first | exact Or.inl rfl | exact Or.inr (Or.inl rfl) | exact Or.inr rfl) (q_pe_op op_add_str (q_pv 2) (q_pe_ix ix_str q_pe_str (q_pe_call G_l_next hr_l_next (by rfl) T.mg_l_next T.kp_l_next T.b_l_next .nil pass0 (q_pa_cons (q_pv 0) (q_pa_cons q_pe_int q_pa_nil star_Constant) star_Name)) (fun _ _ => rfl))))))
      (q_pss_one (q_ps_ret (q_pv 2))))))), ?_⟩
    refine ⟨by decide, fun p hp => ?_⟩
    have s1 := same_new (o := .lst (words14.map V.str)) hp
    have D1 := D.same s1
    have np := D.ne hp
    refine ⟨_, rfl, d, a, ns, _, rfl, D1, by decide, fun r H2 r0 r1 D2 k2 => ⟨rfl, _, rfl, ite2 (fun _ => ?_) (fun _ => ?_)⟩⟩
    · have h2 := k2 _ _ upd_same np
      refine ⟨_, rfl, _, rfl, _, rfl, p, _, rfl, .inl (SqL.of h2), d, a, ns, _, rfl, D2, by decide, fun r' H3 r0' r1' D3 k3 => ?_⟩
      obtain ⟨v, hv, hm⟩ := at_bound (xs := words14.map V.str) r0' r1'
      obtain ⟨x, hx, rfl⟩ := List.mem_map.mp hm
      refine ⟨p, _, r', _, rfl, rfl, SqL.of (k3 _ _ h2 np), hv, ?_⟩
      have all : words14.all nameOk = true := by decide +kernel
      exact q x H3 (List.all_eq_true.mp all x hx) D3 (((Keep.of s1).trans k2).trans k3)
    · refine ⟨_, rfl, d, a, ns, _, rfl, D2, by decide, fun m H3 m0 m1 D3 k3 => ?_⟩
      refine ⟨_, _, rfl, rfl, _, rfl, by omega, by omega, ?_⟩
      refine for_range (lo := 0) (fun i σ H' => ∃ (o3 : Option V) (x : Str), σ = [some (.ref d), some (.ref p), some (.str x), o3] ∧ x.length = i ∧ (x.cps.toList.all fun c => decide (c ∈ letters.cps.toList)) = true ∧ DrawAt K H' d a ns ∧ Keep d H H') ?_ ?_ ?_
      · exact ⟨none, "", rfl, rfl, rfl, D3, ((Keep.of s1).trans k2).trans k3⟩
      · rintro i σ H4 hi ⟨o3, x, rfl, lx, ax, D4, k4⟩
        refine ⟨_, rfl, _, rfl, d, a, ns, _, rfl, D4, by decide, fun r' H5 r0' r1' D5 k5 => ?_⟩
        obtain ⟨c, hc, hm⟩ := at_bound (xs := letters.cps.toList) r0' r1'
        refine ⟨letters, r', c, rfl, rfl, by decide, hc, _, _, rfl, rfl, Nat.le_of_lt (small1000 (by show x.length + 1 ≤ 1000; omega)), ?_⟩
        refine ⟨_, _, rfl, by rw [len_app, lx]; rfl, ?_, D5, k4.trans k5⟩
        rw [tl_app, List.all_append, ax, Bool.true_and, List.all_cons]
        rw [decide_eq_true hm]; rfl
      · rintro σ H4 ⟨o3, x, rfl, lx, ax, D4, k4⟩
        refine ⟨_, rfl, q x H4 ?_ D4 k4⟩
        unfold nameOk madeOf
        rw [ax, decide_eq_true (by omega : 0 < x.length), decide_eq_true (by omega : x.length ≤ 8)]
        rfl
def spWords (K : PySem.W.Frag) : Sp := fun vs H Q _ => ∃ (d a : Addr) (ns : List Int) (m : Int), vs = [.ref d, .int m] ∧ DrawAt K H d a ns ∧ 0 ≤ m ∧ m ≤ 6 ∧
  ∀ (L : Addr) (ws : List Str) (H' : Hp), ws.length = m.toNat → ws.Nodup → (∀ x ∈ ws, nameOk x = true) → H' L = some (.lst (ws.map .str)) → H L = none → DrawAt K H' d a ns → Keep d H H' → Q (.ref L) H'
theorem ok_words (T : Env K mg t) : FnOk P w K mg base CX0 4 t.a_l_words t.fd_l_words ["_law_draw", "_law_many"] (spWords K) := by
  have G_l_word : FnOk P w K mg base CX0 3 t.a_l_word t.fd_l_word ["_law_draw"] (spWord K) := ok_word T
  refine T.f_l_words.okQ sc_l_words (fun vs H Q E h => ?_) (fun cdv A outer s H vs Q E hr h => ?_)
  · obtain ⟨d, a, ns, m, rfl, _⟩ := h
    rfl
  · obtain ⟨d, a, ns, m, rfl, D, m0, m1, q⟩ := h
    have hr_l_word := hr
    refine ⟨_, (q_pss_cons (q_ps_set (i := 2) sc_l_words.nd rfl (by first | exact Or.inl rfl | exact Or.inr (Or.inl rfl) | exact Or.inr rfl) (q_pe_lst q_pa_nil))
      (q_pss_cons (q_ps_for PassesOwn.never rfl (q_pi_range1 (by rfl) T.z_range (q_pa_cons (q_pv 1) q_pa_nil star_Name)) (q_pg_name (i := 3) sc_l_words.nd rfl (by first | exact Or.inl rfl | exact Or.inr (Or.inl rfl) | exact Or.inr rfl))
      (q_pss_cons (q_ps_set (i := 4) sc_l_words.nd rfl (by first | exact Or.inl rfl | exact Or.inr (Or.inl rfl) | exact Or.inr rfl) (q_pe_call G_l_word hr_l_word (by rfl) T.mg_l_word T.kp_l_word T.b_l_word .nil pass0 (q_pa_cons (q_pv 0) q_pa_nil star_Name)))
      (q_pss_cons (q_ps_if (q_pt_cmpR op_in_seq (q_pv 4) (q_pv 2) (by rfl)) (q_pss_one (q_ps_set (i := 4) sc_l_words.nd rfl (by first | exact Or.inl rfl | exact Or.inr (Or.inl rfl) | exact Or.inr rfl) (q_pe_ix ix_list (q_pe_lc (own := [("_law_sign", 5)]) (g := gName 5) (by rfl) sc_l_words.nd (q_pi_str q_pe_str) (blkOk_by (own := [("_law_sign", 5)]) (N := ["_law_draw", "_law_many", "_law_found", "_law_k", "_law_word_here", "_law_sign"]) (sc := defScope s_l_words) (by decide +kernel)) (fun _ _ _ _ _ => (q_pg_name (i := 5) sc_l_words.nd rfl (by first | exact Or.inl rfl | exact Or.inr (Or.inl rfl) | exact Or.inr rfl))) (fun _ _ _ _ _ => (q_pts_one (q_pt_cmpR (op_notIn_seqK (K := K) rfl) (q_pe_op op_add_str (q_pe_slice sl_str (q_pv 4) q_po_none (q_po_some q_pe_int)) (q_pv 5)) (q_pv 2) (by rfl)))) (fun _ _ _ _ _ => (q_pe_op op_add_str (q_pe_slice sl_str (q_pv 4) q_po_none (q_po_some q_pe_int)) (q_pv 5)))) q_pe_int (fun _ _ => rfl)))) q_pss_nil)
      (q_pss_one (q_ps_expr (q_pe_bm PySem.F.plainAttrs_list PySem.F.slot_list_append PySem.F.type_list_append mt_append (q_pv 2) (q_pa_cons (q_pv 4) q_pa_nil star_Name)))))))
      (q_pss_one (q_ps_ret (q_pv 2))))), ?_⟩
    refine ⟨by decide, fun L hL => ?_⟩
    have D1 := D.same (same_new (o := .lst []) hL)
    have nL := D.ne hL
    refine ⟨_, rfl, m, rfl, by omega, by omega, ?_⟩
    refine for_range (lo := 0) (fun i σ H' => ∃ (o3 o4 o5 : Option V) (ws : List Str), σ = [some (.ref d), some (.int m), some (.ref L), o3, o4, o5] ∧ ws.length = i ∧ ws.Nodup ∧ (∀ x ∈ ws, nameOk x = true) ∧ H' L = some (.lst (ws.map .str)) ∧ DrawAt K H' d a ns ∧ Keep d H H') ?_ ?_ ?_
    · exact ⟨none, none, none, [], rfl, rfl, .nil, by simp, upd_same, D1, .of (same_new hL)⟩
    · rintro i σ H4 hi ⟨o3, o4, o5, ws, rfl, lw, nw, aw, h4, D4, k4⟩
      refine ⟨_, rfl, d, a, ns, rfl, D4, fun x H5 nx D5 k5 => ?_⟩
      have h5 := k5 _ _ h4 nL
      obtain ⟨x0, x1, x2⟩ := nameOk_iff.mp nx
      have lz : x.length ≤ sizeLine := Nat.le_of_lt (small1000 (by omega))
      have app : ∀ (y : Str) (H6 : Hp) (o3 o5 : Option V), nameOk y = true → y ∉ ws → H6 L = some (.lst (ws.map .str)) → DrawAt K H6 d a ns → Keep d H H6 →
        ∃ (o3' o4' o5' : Option V) (ws' : List Str), ([some (.ref d), some (.int m), some (.ref L), o3, some (.str y), o5] : St) = [some (.ref d), some (.int m), some (.ref L), o3', o4', o5'] ∧ ws'.length = i + 1 ∧ ws'.Nodup ∧ (∀ x ∈ ws', nameOk x = true) ∧ (upd H6 L (.lst (ws.map .str ++ [.str y]))) L = some (.lst (ws'.map .str)) ∧ DrawAt K (upd H6 L (.lst (ws.map .str ++ [.str y]))) d a ns ∧ Keep d H (upd H6 L (.lst (ws.map .str ++ [.str y]))) := by
        intro y H6 o3 o5 ny hy h6 D6 k6
        refine ⟨o3, _, o5, ws ++ [y], rfl, by rw [List.length_append, lw]; rfl, ?_, ?_, ?_, D6.upd nL (nofrz h6), k6.updNew hL⟩
        · rw [List.nodup_append]
          refine ⟨nw, by simp, ?_⟩
          intro b hb c hc e
          rw [List.mem_singleton] at hc
          subst hc; subst e
          exact hy hb
        · intro b hb
          rcases List.mem_append.mp hb with z | z
          · exact aw b z
          · rw [List.mem_singleton.mp z]; exact ny
        · rw [upd_same, List.map_append]; rfl
      refine ⟨_, rfl, _, rfl, L, _, rfl, .inl (SqL.of h5), rfl, flat_strs ws, _, rfl, ?_⟩
      rw [if_neg (by decide : ¬ (false = true)), inV_strs]
      refine ite2 (fun hin => ?_) (fun hin => ?_)
      · have hc7 : (cutS x none (some 7)).length ≤ x.length := len_cut x none (some 7)
        have l1 : ∀ c, (sgn c).length = 1 := fun c => rfl
        refine ⟨letters, rfl, fun L2 hL2 => ?_⟩
        have n2 : L2 ≠ L := (ne_of_none h5 hL2).symm
        refine lc_str (fun i H' => H' L2 = some (.lst (((letters.cps.toList.take i).filter fun c => !decide (cutS x none (some 7) ++ sgn c ∈ ws)).map fun c => .str (cutS x none (some 7) ++ sgn c))) ∧ Same H5 H') ?_ ?_ ?_
        · exact ⟨by rw [upd_same]; rfl, same_new hL2⟩
        · rintro j c H6 hc ⟨h6, s6⟩
          refine ⟨rfl, ?_⟩
          have lz7 : (cutS x none (some 7)).length + (sgn c).length ≤ sizeLine := Nat.le_of_lt (small1000 (by rw [l1]; omega))
          refine ⟨_, rfl, 7, rfl, x, rfl, lz, _, rfl, _, _, rfl, rfl, lz7, _, rfl, L, _, rfl, .inl (SqL.of (s6 _ _ h5)), rfl, flat_strs ws, _, rfl, ?_⟩
          rw [if_pos (by decide : (true = true)), inV_strs]
          refine ite2 (fun hb => ?_) (fun hb => ?_)
          · refine ⟨_, rfl, 7, rfl, x, rfl, lz, _, rfl, _, _, rfl, rfl, lz7, _, h6, small1000 ?_, ?_, fun b o e => ?_⟩
            · rw [List.length_map]
              have := List.length_filter_le (fun c => !decide (cutS x none (some 7) ++ sgn c ∈ ws)) (letters.cps.toList.take j)
              have := List.length_take_le' j letters.cps.toList
              rw [letters_len] at this
              omega
            · rw [upd_same, List.take_succ, hc, List.filter_append, List.map_append]
              show _ = some (HO.lst (_ ++ List.map _ (List.filter _ [c])))
              rw [List.filter_cons, if_pos hb]
              rfl
            · rw [upd_ne (ne_of_none e hL2)]
              exact s6 b o e
          · refine ⟨?_, s6⟩
            rw [h6, List.take_succ, hc, List.filter_append, List.map_append]
            show _ = some (HO.lst (_ ++ List.map _ (List.filter _ [c])))
            rw [List.filter_cons, if_neg hb]
            simp
        · rintro H6 ⟨h6, s6⟩
          rw [List.take_length] at h6
          have fs := free_sign (cutS x none (some 7)) ws (by omega)
          cases ef : (letters.cps.toList.filter fun c => !decide (cutS x none (some 7) ++ sgn c ∈ ws)) with
          | nil => exact absurd ef fs
          | cons c r =>
            rw [ef, List.map_cons] at h6
            have hm : c ∈ letters.cps.toList.filter fun c => !decide (cutS x none (some 7) ++ sgn c ∈ ws) := by rw [ef]; exact List.mem_cons_self
            obtain ⟨hm1, hm2⟩ := List.mem_filter.mp hm
            have hm3 : cutS x none (some 7) ++ sgn c ∉ ws := by simpa using hm2
            refine ⟨L2, _, 0, _, rfl, rfl, SqL.of h6, at_of (j := 0) (by decide) rfl, ?_⟩
            have h7 := s6 _ _ h5
            refine ⟨_, rfl, .inl ⟨rfl, _, SqL.of h7⟩, _, rfl, L, _, _, rfl, rfl, h7, small1000 (by rw [List.length_map]; omega), ?_⟩
            exact app _ H6 _ _ (nameOk_cut nx hm1) hm3 h7 (D5.same s6) ((k4.trans k5).trans (.of s6))
      · refine ⟨_, rfl, .inl ⟨rfl, _, SqL.of h5⟩, _, rfl, L, _, _, rfl, rfl, h5, small1000 (by rw [List.length_map]; omega), ?_⟩
        exact app x H5 _ _ nx (by simpa using hin) h5 D5 (k4.trans k5)
    · rintro σ H4 ⟨o3, o4, o5, ws, rfl, lw, nw, aw, h4, D4, k4⟩
      exact ⟨_, rfl, q L ws H4 lw nw aw h4 hL D4 k4⟩
end
end Ck
set_option Elab.async false
set_option linter.all false
set_option maxRecDepth 100000
set_option maxHeartbeats 4000000
namespace Ck
open PySem L2
section
variable {P : Program} {w : World} {K : PySem.W.Frag} {mg : Str → Option Value} {base : Heap} {t : Ad}
def spMade : Sp := fun vs H Q _ => ∃ (x y : Str), vs = [.str x, .str y] ∧ x.length ≤ 1000 ∧ ∀ H', Same H H' → Q (.bl (madeOf x y)) H'
def spTx (f : Str → Bool) : Sp := fun vs H Q _ => ∃ (x : Str), vs = [.str x] ∧ x.length ≤ 1000 ∧ ∀ H', Same H H' → Q (.bl (f x)) H'
theorem ok_made (T : Env K mg t) : FnOk P w K mg base CX0 1 t.a_is_made_of t.fd_is_made_of ["text", "signs"] spMade := by
  refine T.f_is_made_of.okQ sc_is_made_of (fun vs H Q E h => ?_) (fun cdv A outer s H vs Q E hr h => ?_)
  · obtain ⟨x, y, rfl, _⟩ := h
    rfl
  · obtain ⟨x, y, rfl, hx, q⟩ := h
    have hz : x.length ≤ sizeLine := Nat.le_of_lt (small1000 hx)
    refine ⟨_, (q_pss_one (q_ps_ret (q_pe_and (q_pe_cmpR op_gt (q_pe_callB call_len_str (by rfl) T.z_len PySem.boot_len (q_pa_cons (q_pv 0) q_pa_nil star_Name)) q_pe_int (nomark _)) (q_pe_one (q_pe_callB (cr_all rfl) (by rfl) T.z_all (by decide +kernel) (q_pa_cons (q_pe_lc (own := [("sign", 2)]) (g := gName 2) (by rfl) sc_is_made_of.nd (q_pi_str (q_pv 0)) (blkOk_by (own := [("sign", 2)]) (N := ["text", "signs", "sign"]) (sc := defScope s_is_made_of) (by decide +kernel)) (fun _ _ _ _ _ => (q_pg_name (i := 2) sc_is_made_of.nd rfl (by first | exact Or.inl rfl | exact Or.inr (Or.inl rfl) | exact Or.inr rfl))) (fun _ _ _ _ _ => q_pts_nil) (fun _ _ _ _ _ => (q_pe_cmpR op_in_sign (q_pv 2) (q_pv 1) (by rfl)))) q_pa_nil star_ListComp)))))), ?_⟩
    refine ⟨_, rfl, x, rfl, hz, _, _, rfl, rfl, _, rfl, ?_⟩
    refine ite2 (fun h1 => ?_) (fun h1 => ?_)
    · have h0 : 0 < x.length := by simpa using h1
      refine ⟨_, rfl, x, rfl, fun L hL => ?_⟩
      refine lc_str (fun i H' => H' L = some (.lst ((x.cps.toList.take i).map fun c => .bl (decide (c ∈ y.cps.toList)))) ∧ Same H H') ?_ ?_ ?_
      · exact ⟨by rw [upd_same]; rfl, same_new hL⟩
      · rintro i c H1 hc ⟨h1, s1⟩
        refine ⟨rfl, yes_i ?_⟩
        refine ⟨_, rfl, _, rfl, c, y, rfl, rfl, ?_⟩
        refine ⟨_, h1, small1000 ?_, ?_, fun b o e => ?_⟩
        · rw [List.length_map, List.length_take, ← str_len]; omega
        · rw [upd_same, List.take_succ, hc, List.map_append]
          rfl
        · rw [upd_ne (ne_of_none e hL)]
          exact s1 b o e
      · rintro H1 ⟨h1, s1⟩
        rw [List.take_length] at h1
        refine ⟨L, x.cps.toList.map fun c => decide (c ∈ y.cps.toList), rfl, SqL.of (by rw [List.map_map]; exact h1), ?_⟩
        have e : (x.cps.toList.map fun c => decide (c ∈ y.cps.toList)).all id = madeOf x y := by
          unfold madeOf
          rw [List.all_map, decide_eq_true h0, Bool.true_and]
          rfl
        rw [e]
        exact q H1 s1
    · have h0 : ¬ 0 < x.length := by simpa using h1
      have e : madeOf x y = false := by unfold madeOf; rw [decide_eq_false h0, Bool.false_and]
      rw [← e]
      exact q H (Same.refl H)
theorem ok_isword (T : Env K mg t) : FnOk P w K mg base CX0 2 t.a_is_word t.fd_is_word ["text"] (spTx fun x => madeOf x letters) := by
  have G_is_made_of : FnOk P w K mg base CX0 1 t.a_is_made_of t.fd_is_made_of ["text", "signs"] spMade := ok_made T
  refine T.f_is_word.okQ sc_is_word (fun vs H Q E h => ?_) (fun cdv A outer s H vs Q E hr h => ?_)
  · obtain ⟨x, rfl, _⟩ := h
    rfl
  · obtain ⟨x, rfl, hx, q⟩ := h
    have hr_is_made_of := hr
    refine ⟨_, (q_pss_one (q_ps_ret (q_pe_and (q_pe_callB call_isinst (by rfl) T.z_isinstance (by decide +kernel) (q_pa_cons (q_pv 0) (q_pa_cons (q_pe_bltn (v := .ty "str") (by rfl) T.z_str (by decide +kernel) rfl) q_pa_nil star_Name) star_Name)) (q_pe_one (q_pe_call G_is_made_of hr_is_made_of (by rfl) T.mg_is_made_of T.kp_is_made_of T.b_is_made_of .nil pass0 (q_pa_cons (q_pv 0) (q_pa_cons (q_pe_glob (v := c_SMALL_LETTERS) (by rfl) T.mg_SMALL_LETTERS ⟨_, rfl⟩) q_pa_nil star_Name) star_Name)))))), ?_⟩
    refine ⟨_, rfl, _, "str", _, _, rfl, .str x, kit_same, _, rfl, iteT ?_⟩
    exact ⟨_, rfl, x, letters, rfl, hx, q⟩
theorem ok_name (T : Env K mg t) : FnOk P w K mg base CX0 3 t.a_is_name t.fd_is_name ["text"] (spTx nameOk) := by
  have G_is_word : FnOk P w K mg base CX0 2 t.a_is_word t.fd_is_word ["text"] (spTx fun x => madeOf x letters) := ok_isword T
  refine T.f_is_name.okQ sc_is_name (fun vs H Q E h => ?_) (fun cdv A outer s H vs Q E hr h => ?_)
  · obtain ⟨x, rfl, _⟩ := h
    rfl
  · obtain ⟨x, rfl, hx, q⟩ := h
    have hr_is_word := hr
    have hz : x.length ≤ sizeLine := Nat.le_of_lt (small1000 hx)
    refine ⟨_, (q_pss_one (q_ps_ret (q_pe_and (q_pe_call G_is_word hr_is_word (by rfl) T.mg_is_word T.kp_is_word T.b_is_word .nil pass0 (q_pa_cons (q_pv 0) q_pa_nil star_Name)) (q_pe_one (q_pe_cmpR op_le (q_pe_callB call_len_str (by rfl) T.z_len PySem.boot_len (q_pa_cons (q_pv 0) q_pa_nil star_Name)) (q_pe_glob (v := c_LONGEST_NAME) (by rfl) T.mg_LONGEST_NAME ⟨_, rfl⟩) (nomark _)))))), ?_⟩
    refine ⟨_, rfl, x, rfl, hx, fun H1 s1 => ⟨_, rfl, ?_⟩⟩
    refine ite2 (fun e => ?_) (fun e => ?_)
    · have e : madeOf x letters = true := e
      refine ⟨_, rfl, x, rfl, hz, _, _, rfl, rfl, ?_⟩
      have e2 : decide ((x.length : Int) ≤ 8) = nameOk x := by
        unfold nameOk
        rw [e, Bool.true_and]
        exact decide_eq_decide.mpr (by omega)
      show Q (.bl (decide ((x.length : Int) ≤ 8))) H1
      rw [e2]
      exact q H1 s1
    · have e : madeOf x letters = false := Bool.eq_false_iff.mpr e
      have e2 : nameOk x = false := by unfold nameOk; rw [e, Bool.false_and]
      rw [← e2]
      exact q H1 s1
def spNum : Sp := fun vs H Q _ => ∃ (v : V), vs = [v] ∧ ((∃ n : Int, v = .int n ∧ Q (.bl true) H) ∨ ∃ b : Bool, v = .bl b ∧ Q (.bl false) H)
theorem ok_num (T : Env K mg t) : FnOk P w K mg base CX0 1 t.a_is_number t.fd_is_number ["number"] spNum := by
  refine T.f_is_number.okQ sc_is_number (fun vs H Q E h => ?_) (fun cdv A outer s H vs Q E hr h => ?_)
  · obtain ⟨v, rfl, _⟩ := h
    rfl
  · obtain ⟨v, rfl, h⟩ := h
    refine ⟨_, (q_pss_one (q_ps_ret (q_pe_and (q_pe_callB call_isinst (by rfl) T.z_isinstance (by decide +kernel) (q_pa_cons (q_pv 0) (q_pa_cons (q_pe_bltn (v := .ty "int") (by rfl) T.z_int (by decide +kernel) rfl) q_pa_nil star_Name) star_Name)) (q_pe_one (q_pe_not (q_pe_callB call_isinst (by rfl) T.z_isinstance (by decide +kernel) (q_pa_cons (q_pv 0) (q_pa_cons (q_pe_bltn (v := .ty "bool") (by rfl) T.z_bool (by decide +kernel) rfl) q_pa_nil star_Name) star_Name))))))), ?_⟩
    rcases h with ⟨n, rfl, q⟩ | ⟨b, rfl, q⟩
    · refine ⟨_, rfl, _, "int", _, _, rfl, .int n, kit_same, _, rfl, iteT ?_⟩
      exact ⟨_, rfl, _, "bool", _, _, rfl, .int n, kit_int_bool, _, rfl, q⟩
    · refine ⟨_, rfl, _, "int", _, _, rfl, .bl b, kit_bool_int, _, rfl, iteT ?_⟩
      exact ⟨_, rfl, _, "bool", _, _, rfl, .bl b, kit_same, _, rfl, q⟩
def spWithin : Sp := fun vs H Q _ => ∃ (v : V) (lo hi : Int), vs = [v, .int lo, .int hi] ∧ ((∃ n : Int, v = .int n ∧ Q (.bl (decide (lo ≤ n) && decide (n ≤ hi))) H) ∨ ∃ b : Bool, v = .bl b ∧ Q (.bl false) H)
theorem ok_within (T : Env K mg t) : FnOk P w K mg base CX0 2 t.a_is_within t.fd_is_within ["number", "least", "most"] spWithin := by
  have G_is_number : FnOk P w K mg base CX0 1 t.a_is_number t.fd_is_number ["number"] spNum := ok_num T
  refine T.f_is_within.okQ sc_is_within (fun vs H Q E h => ?_) (fun cdv A outer s H vs Q E hr h => ?_)
  · obtain ⟨v, lo, hi, rfl, _⟩ := h
    rfl
  · obtain ⟨v, lo, hi, rfl, h⟩ := h
    have hr_is_number := hr
    refine ⟨_, (q_pss_one (q_ps_ret (q_pe_and (q_pe_call G_is_number hr_is_number (by rfl) T.mg_is_number T.kp_is_number T.b_is_number .nil pass0 (q_pa_cons (q_pv 0) q_pa_nil star_Name)) (q_pe_one (q_pe_chain op_le op_le (q_pv 1) (q_pv 0) (q_pv 2)))))), ?_⟩
    rcases h with ⟨n, rfl, q⟩ | ⟨b, rfl, q⟩
    · refine ⟨_, rfl, _, rfl, .inl ⟨n, rfl, _, rfl, iteT ?_⟩⟩
      refine ⟨_, rfl, _, rfl, _, _, rfl, rfl, _, rfl, ?_⟩
      refine ite2 (fun h1 => ?_) (fun h1 => ?_)
      · rw [h1, Bool.true_and] at q
        exact ⟨_, rfl, _, _, rfl, rfl, q⟩
      · rw [Bool.eq_false_iff.mpr h1, Bool.false_and] at q
        exact q
    · exact ⟨_, rfl, _, rfl, .inr ⟨b, rfl, _, rfl, iteF q⟩⟩
def spTo (hi : Int) : Sp := fun vs H Q _ => ∃ v : V, vs = [v] ∧ ((∃ n : Int, v = .int n ∧ Q (.bl (decide (0 ≤ n) && decide (n ≤ hi))) H) ∨ ∃ b : Bool, v = .bl b ∧ Q (.bl false) H)
theorem ok_day (T : Env K mg t) : FnOk P w K mg base CX0 3 t.a_is_day t.fd_is_day ["number"] (spTo 9999) := by
  have G_is_within : FnOk P w K mg base CX0 2 t.a_is_within t.fd_is_within ["number", "least", "most"] spWithin := ok_within T
  refine T.f_is_day.okQ sc_is_day (fun vs H Q E h => ?_) (fun cdv A outer s H vs Q E hr h => ?_)
  · obtain ⟨v, rfl, _⟩ := h
    rfl
  · obtain ⟨v, rfl, h⟩ := h
    have hr_is_within := hr
    refine ⟨_, (q_pss_one (q_ps_ret (q_pe_call G_is_within hr_is_within (by rfl) T.mg_is_within T.kp_is_within T.b_is_within .nil pass0 (q_pa_cons (q_pv 0) (q_pa_cons q_pe_int (q_pa_cons (q_pe_glob (v := c_MOST_DAY) (by rfl) T.mg_MOST_DAY ⟨_, rfl⟩) q_pa_nil star_Name) star_Constant) star_Name)))), ?_⟩
    exact ⟨_, rfl, v, 0, 9999, rfl, h⟩
theorem ok_wth (T : Env K mg t) : FnOk P w K mg base CX0 3 t.a_is_worth t.fd_is_worth ["number"] (spTo 1000000) := by
  have G_is_within : FnOk P w K mg base CX0 2 t.a_is_within t.fd_is_within ["number", "least", "most"] spWithin := ok_within T
  refine T.f_is_worth.okQ sc_is_worth (fun vs H Q E h => ?_) (fun cdv A outer s H vs Q E hr h => ?_)
  · obtain ⟨v, rfl, _⟩ := h
    rfl
  · obtain ⟨v, rfl, h⟩ := h
    have hr_is_within := hr
    refine ⟨_, (q_pss_one (q_ps_ret (q_pe_call G_is_within hr_is_within (by rfl) T.mg_is_within T.kp_is_within T.b_is_within .nil pass0 (q_pa_cons (q_pv 0) (q_pa_cons q_pe_int (q_pa_cons (q_pe_glob (v := c_MOST_WORTH) (by rfl) T.mg_MOST_WORTH ⟨_, rfl⟩) q_pa_nil star_Name) star_Constant) star_Name)))), ?_⟩
    exact ⟨_, rfl, v, 0, 1000000, rfl, h⟩
def spCkName : Sp := fun vs H Q _ => ∃ x : Str, vs = [.str x] ∧ nameOk x = true ∧ ∀ H', Same H H' → Q .non H'
theorem ok_ckname (T : Env K mg t) : FnOk P w K mg base CX0 4 t.a_check_name t.fd_check_name ["text"] spCkName := by
  have G_is_name : FnOk P w K mg base CX0 3 t.a_is_name t.fd_is_name ["text"] (spTx nameOk) := ok_name T
  refine T.f_check_name.okQ sc_check_name (fun vs H Q E h => ?_) (fun cdv A outer s H vs Q E hr h => ?_)
  · obtain ⟨x, rfl, _⟩ := h
    rfl
  · obtain ⟨x, rfl, nx, q⟩ := h
    have hr_is_name := hr
    refine ⟨_, (q_pss_one (q_ps_if (q_pt_not (q_pt_val (q_pe_call G_is_name hr_is_name (by rfl) T.mg_is_name T.kp_is_name T.b_is_name .nil pass0 (q_pa_cons (q_pv 0) q_pa_nil star_Name)))) (q_pss_one q_ps_never) q_pss_nil)), ?_⟩
    have := (nameOk_iff.mp nx).2.1
    refine ⟨_, rfl, x, rfl, by omega, fun H1 s1 => ?_⟩
    exact ⟨_, rfl, iteN nx (q H1 s1)⟩
def spCkTo (hi : Int) : Sp := fun vs H Q _ => ∃ n : Int, vs = [.int n] ∧ 0 ≤ n ∧ n ≤ hi ∧ Q .non H
theorem ok_ckday (T : Env K mg t) : FnOk P w K mg base CX0 4 t.a_check_day t.fd_check_day ["number"] (spCkTo 9999) := by
  have G_is_day : FnOk P w K mg base CX0 3 t.a_is_day t.fd_is_day ["number"] (spTo 9999) := ok_day T
  refine T.f_check_day.okQ sc_check_day (fun vs H Q E h => ?_) (fun cdv A outer s H vs Q E hr h => ?_)
  · obtain ⟨n, rfl, _⟩ := h
    rfl
  · obtain ⟨n, rfl, n0, n1, q⟩ := h
    have hr_is_day := hr
    refine ⟨_, (q_pss_one (q_ps_if (q_pt_not (q_pt_val (q_pe_call G_is_day hr_is_day (by rfl) T.mg_is_day T.kp_is_day T.b_is_day .nil pass0 (q_pa_cons (q_pv 0) q_pa_nil star_Name)))) (q_pss_one q_ps_never) q_pss_nil)), ?_⟩
    refine ⟨_, rfl, _, rfl, .inl ⟨n, rfl, ?_⟩⟩
    rw [decide_eq_true n0, decide_eq_true n1]
    exact ⟨_, rfl, iteN rfl q⟩
theorem ok_ckwth (T : Env K mg t) : FnOk P w K mg base CX0 4 t.a_check_worth t.fd_check_worth ["number"] (spCkTo 1000000) := by
  have G_is_worth : FnOk P w K mg base CX0 3 t.a_is_worth t.fd_is_worth ["number"] (spTo 1000000) := ok_wth T
  refine T.f_check_worth.okQ sc_check_worth (fun vs H Q E h => ?_) (fun cdv A outer s H vs Q E hr h => ?_)
  · obtain ⟨n, rfl, _⟩ := h
    rfl
  · obtain ⟨n, rfl, n0, n1, q⟩ := h
    have hr_is_worth := hr
    refine ⟨_, (q_pss_one (q_ps_if (q_pt_not (q_pt_val (q_pe_call G_is_worth hr_is_worth (by rfl) T.mg_is_worth T.kp_is_worth T.b_is_worth .nil pass0 (q_pa_cons (q_pv 0) q_pa_nil star_Name)))) (q_pss_one q_ps_never) q_pss_nil)), ?_⟩
    refine ⟨_, rfl, _, rfl, .inl ⟨n, rfl, ?_⟩⟩
    rw [decide_eq_true n0, decide_eq_true n1]
    exact ⟨_, rfl, iteN rfl q⟩
end
end Ck
set_option Elab.async false
set_option linter.all false
set_option maxRecDepth 100000
set_option maxHeartbeats 4000000
namespace Ck
open PySem L2
section
variable {P : Program} {w : World} {K : PySem.W.Frag} {mg : Str → Option Value} {base : Heap} {t : Ad}
def spCInit (C : Addr) : Sp := fun vs H Q _ => ∃ (x dx : Addr), vs = [.ref x] ∧ H x = some (.ins C dx []) ∧ ∀ L H', CallsAt C H' x L [] → H L = none → Keep x H H' → Q .non H'
theorem ok_cinit (T : Env K mg t) : FnOk P w K mg base CX0 1 t.a_Calls_init t.fd_Calls_init ["self"] (spCInit t.C_Calls) := by
  refine T.f_Calls_init.okQ sc_Calls_init (fun vs H Q E h => ?_) (fun cdv A outer s H vs Q E hr h => ?_)
  · obtain ⟨x, dx, rfl, _⟩ := h
    rfl
  · obtain ⟨x, dx, rfl, hx, q⟩ := h
    refine ⟨_, (q_pss_one (q_ps_fld (q_pv 0) (q_pe_lst q_pa_nil) rfl)), ?_⟩
    refine ⟨by decide, fun L hL => ?_⟩
    have s1 := same_new (o := .lst []) hL
    have nL : L ≠ x := (ne_of_none hx hL).symm
    refine ⟨_, rfl, x, _, dx, _, rfl, s1 _ _ hx, T.cl_Calls, T.no_Calls_rows, (by show 0 < 1000; decide), ?_⟩
    refine q L _ ⟨dx, [], upd_same, by rw [upd_ne nL]; exact upd_same, .nil _⟩ hL ?_
    intro b o e nb
    rw [upd_ne nb]
    exact s1 b o e
def spTell (C : Addr) : Sp := fun vs H Q _ => ∃ (x L : Addr) (tn kd : Str) (d v : Int) (rows : List CRow), vs = [.ref x, .str tn, .str kd, .int d, .int v] ∧ CallsAt C H x L rows ∧ nameOk tn = true ∧ nameOk kd = true ∧ 0 ≤ d ∧ d ≤ 9999 ∧ 0 ≤ v ∧ v ≤ 1000000 ∧ rows.length < 300 ∧
  ∀ H', CallsAt C H' x L (rows ++ [(tn, kd, d, v)]) → Keep L H H' → Q (.int (rows.length + 1)) H'
theorem ok_tell (T : Env K mg t) : FnOk P w K mg base CX0 5 t.a_Calls_tell t.fd_Calls_tell ["self", "town", "kind", "day", "worth"] (spTell t.C_Calls) := by
  have G_check_name : FnOk P w K mg base CX0 4 t.a_check_name t.fd_check_name ["text"] spCkName := ok_ckname T
  have G_check_day : FnOk P w K mg base CX0 4 t.a_check_day t.fd_check_day ["number"] (spCkTo 9999) := ok_ckday T
  have G_check_worth : FnOk P w K mg base CX0 4 t.a_check_worth t.fd_check_worth ["number"] (spCkTo 1000000) := ok_ckwth T
  refine T.f_Calls_tell.okQ sc_Calls_tell (fun vs H Q E h => ?_) (fun cdv A outer s H vs Q E hr h => ?_)
  · obtain ⟨x, L, tn, kd, d, v, rows, rfl, _⟩ := h
    rfl
  · obtain ⟨x, L, tn, kd, d, v, rows, rfl, c, nt, nk, d0, d1, v0, v1, hl, q⟩ := h
    have hr_check_name := hr
    have hr_check_day := hr
    have hr_check_worth := hr
    refine ⟨_, (q_pss_cons (q_ps_expr (q_pe_call G_check_name hr_check_name (by rfl) T.mg_check_name T.kp_check_name T.b_check_name .nil pass0 (q_pa_cons (q_pv 1) q_pa_nil star_Name)))
      (q_pss_cons (q_ps_expr (q_pe_call G_check_name hr_check_name (by rfl) T.mg_check_name T.kp_check_name T.b_check_name .nil pass0 (q_pa_cons (q_pv 2) q_pa_nil star_Name)))
      (q_pss_cons (q_ps_expr (q_pe_call G_check_day hr_check_day (by rfl) T.mg_check_day T.kp_check_day T.b_check_day .nil pass0 (q_pa_cons (q_pv 3) q_pa_nil star_Name)))
      (q_pss_cons (q_ps_expr (q_pe_call G_check_worth hr_check_worth (by rfl) T.mg_check_worth T.kp_check_worth T.b_check_worth .nil pass0 (q_pa_cons (q_pv 4) q_pa_nil star_Name)))
      (q_pss_cons (q_ps_if (q_pt_cmpR op_ge (q_pe_callB call_len_seq (by rfl) T.z_len PySem.boot_len (q_pa_cons (q_pe_fld (q_pv 0) rfl) q_pa_nil star_Attribute)) (q_pe_glob (v := c_MOST_TELLINGS) (by rfl) T.mg_MOST_TELLINGS ⟨_, rfl⟩) (nomark _)) (q_pss_one q_ps_never) q_pss_nil)
      (q_pss_cons (q_ps_expr (q_pe_bm PySem.F.plainAttrs_list PySem.F.slot_list_append PySem.F.type_list_append mt_append (q_pe_fld (q_pv 0) rfl) (q_pa_cons (q_pe_tup (q_pa_cons (q_pv 1) (q_pa_cons (q_pv 2) (q_pa_cons (q_pv 3) (q_pa_cons (q_pv 4) q_pa_nil star_Name) star_Name) star_Name) star_Name)) q_pa_nil star_Tuple)))
      (q_pss_one (q_ps_ret (q_pe_callB call_len_seq (by rfl) T.z_len PySem.boot_len (q_pa_cons (q_pe_fld (q_pv 0) rfl) q_pa_nil star_Attribute)))))))))), ?_⟩
    refine ⟨_, rfl, tn, rfl, nt, fun H1 s1 => ⟨_, rfl, kd, rfl, nk, fun H2 s2 => ?_⟩⟩
    have s2 := s1.trans s2
    refine ⟨_, rfl, d, rfl, d0, d1, _, rfl, v, rfl, v0, v1, ?_⟩
    obtain ⟨dx, rs, hx, hL, ra⟩ := c.same s2
    have lr := ra.len
    refine ⟨_, rfl, x, _, dx, _, _, rfl, hx, T.cl_Calls, T.no_Calls_rows, rfl, L, _, rfl, .inl (SqL.of hL), _, _, rfl, rfl, ?_⟩
    refine ⟨_, rfl, ?_⟩
    rw [decide_eq_false (by rw [List.length_map]; omega)]
    refine iteF ?_
    refine ⟨_, rfl, x, _, dx, _, _, rfl, hx, T.cl_Calls, T.no_Calls_rows, rfl, .inl ⟨rfl, _, SqL.of hL⟩, ?_⟩
    refine ⟨_, rfl, _, rfl, _, rfl, _, rfl, (by show 4 ≤ sizeLine; decide), fun r hr' => ?_⟩
    have s3 := same_new (o := .tup [V.str tn, V.str kd, V.int d, V.int v]) hr'
    refine ⟨L, _, _, rfl, rfl, s3 _ _ hL, small1000 (by rw [List.length_map]; omega), ?_⟩
    have hx3 := s3 _ _ hx
    have nx : x ≠ L := fun e => by rw [e, hL] at hx; cases hx
    have t4 : Tups (upd H2 r (.tup [V.str tn, V.str kd, V.int d, V.int v])) (upd (upd H2 r (.tup [V.str tn, V.str kd, V.int d, V.int v])) L (.lst (rs.map V.ref ++ [V.ref r]))) := Tups.upd (s3 _ _ hL)
    have c4 : CallsAt t.C_Calls (upd (upd H2 r (.tup [V.str tn, V.str kd, V.int d, V.int v])) L (.lst (rs.map V.ref ++ [V.ref r]))) x L (rows ++ [(tn, kd, d, v)]) := by
      refine ⟨dx, rs ++ [r], by rw [upd_ne nx]; exact hx3, by rw [upd_same, List.map_append]; rfl, ?_⟩
      exact ((ra.mono (.same s3)).mono t4).snoc (t4 _ _ upd_same)
    obtain ⟨dx', rs', hx', hL', ra'⟩ := id c4
    refine ⟨_, rfl, x, _, dx', _, _, rfl, hx', T.cl_Calls, T.no_Calls_rows, rfl, L, _, rfl, .inl (SqL.of hL'), ?_⟩
    have e : ((rs'.map V.ref).length : Int) = (rows.length : Int) + 1 := by
      rw [List.length_map, ra'.len, List.length_append]; rfl
    rw [e]
    refine q _ c4 ?_
    intro b o eb nb
    rw [upd_ne nb]
    exact s3 _ _ (s2 b o eb)
def spTellings (C : Addr) : Sp := fun vs H Q _ => ∃ (x L : Addr) (kn : V) (rows rows' : List CRow), vs = [.ref x, kn] ∧ CallsAt C H x L rows ∧ Known kn rows rows' ∧
  ∀ L' rs' H', H' L' = some (.lst (rs'.map V.ref)) → RowsAt H' rs' rows' → H L' = none → Same H H' → Q (.ref L') H'
theorem ok_tellings (T : Env K mg t) : FnOk P w K mg base CX0 3 t.a_Calls_tellings t.fd_Calls_tellings ["self", "known"] (spTellings t.C_Calls) := by
  have G_is_within : FnOk P w K mg base CX0 2 t.a_is_within t.fd_is_within ["number", "least", "most"] spWithin := ok_within T
  refine T.f_Calls_tellings.okQ sc_Calls_tellings (fun vs H Q E h => ?_) (fun cdv A outer s H vs Q E hr h => ?_)
  · obtain ⟨x, L, kn, rows, rows', rfl, _⟩ := h
    rfl
  · obtain ⟨x, L, kn, rows, rows', rfl, c, kk, q⟩ := h
    have hr_is_within := hr
    refine ⟨_, (q_pss_cons (q_ps_if (q_pt_cmpR op_isN (q_pv 1) q_pe_non (nomark _)) (q_pss_one (q_ps_ret (q_pe_callTy call_list_of (by rfl) T.z_list (by decide +kernel) (q_pa_cons (q_pe_fld (q_pv 0) rfl) q_pa_nil star_Attribute)))) q_pss_nil)
      (q_pss_cons (q_ps_if (q_pt_not (q_pt_val (q_pe_call G_is_within hr_is_within (by rfl) T.mg_is_within T.kp_is_within T.b_is_within .nil pass0 (q_pa_cons (q_pv 1) (q_pa_cons q_pe_int (q_pa_cons (q_pe_callB call_len_seq (by rfl) T.z_len PySem.boot_len (q_pa_cons (q_pe_fld (q_pv 0) rfl) q_pa_nil star_Attribute)) q_pa_nil star_Call) star_Constant) star_Name)))) (q_pss_one q_ps_never) q_pss_nil)
      (q_pss_one (q_ps_ret (q_pe_slice sl_list (q_pe_fld (q_pv 0) rfl) q_po_none (q_po_some (q_pv 1))))))), ?_⟩
    obtain ⟨dx, rs, hx, hL, ra⟩ := id c
    rcases kk with ⟨rfl, rfl⟩ | ⟨m, rfl, m0, m1, rfl⟩
    · refine ⟨_, rfl, rfl, _, rfl, iteT ?_⟩
      refine ⟨_, rfl, x, _, dx, _, _, rfl, hx, T.cl_Calls, T.no_Calls_rows, rfl, L, _, rfl, .inl (SqL.of hL), fun p hp => ?_⟩
      exact q p rs _ upd_same (ra.mono (.same (same_new hp))) hp (same_new hp)
    · refine ⟨_, rfl, rfl, _, rfl, iteF ?_⟩
      refine ⟨_, rfl, _, rfl, x, _, dx, _, _, rfl, hx, T.cl_Calls, T.no_Calls_rows, rfl, L, _, rfl, .inl (SqL.of hL), .int m, 0, _, rfl, .inl ⟨m, rfl, ?_⟩⟩
      rw [decide_eq_true m0, decide_eq_true (by rw [List.length_map, ra.len]; exact m1)]
      refine ⟨_, rfl, iteN rfl ?_⟩
      refine ⟨_, rfl, x, _, dx, _, _, rfl, hx, T.cl_Calls, T.no_Calls_rows, rfl, _, rfl, m, rfl, L, _, rfl, SqL.of hL, fun p hp => ?_⟩
      refine q p (rs.take m.toNat) _ ?_ ((ra.mono (.same (same_new hp))).take _) hp (same_new hp)
      rw [upd_same, List.map_take, cut_take (by omega)]
end
end Ck
set_option Elab.async false
set_option linter.all false
set_option maxRecDepth 100000
set_option maxHeartbeats 4000000
namespace Ck
open PySem L2
section
variable {P : Program} {w : World} {K : PySem.W.Frag} {mg : Str → Option Value} {base : Heap} {t : Ad}
def spByDay (C : Addr) : Sp := fun vs H Q _ => ∃ (x L : Addr) (tn kd : Str) (kn : V) (rows rows' : List CRow), vs = [.ref x, .str tn, .str kd, kn] ∧ CallsAt C H x L rows ∧ Known kn rows rows' ∧ rows.length ≤ 300 ∧
  ∀ d kvs H', H' d = some (.dK kvs) → DOf kvs rows' tn kd → H d = none → Same H H' → Q (.ref d) H'
theorem Known.len {kn : V} {rows rows' : List CRow} (k : Known kn rows rows') : rows'.length ≤ rows.length := by
  rcases k with ⟨_, rfl⟩ | ⟨m, _, _, _, rfl⟩
  · exact Nat.le_refl _
  · exact List.length_take_le' _ _
theorem ok_byday (T : Env K mg t) : FnOk P w K mg base CX0 4 t.a_Calls_worths_by_day t.fd_Calls_worths_by_day ["self", "town", "kind", "known"] (spByDay t.C_Calls) := by
  have G_Calls_tellings : FnOk P w K mg base CX0 3 t.a_Calls_tellings t.fd_Calls_tellings ["self", "known"] (spTellings t.C_Calls) := ok_tellings T
  refine T.f_Calls_worths_by_day.okQ sc_Calls_worths_by_day (fun vs H Q E h => ?_) (fun cdv A outer s H vs Q E hr h => ?_)
  · obtain ⟨x, L, tn, kd, kn, rows, rows', rfl, _⟩ := h
    rfl
  · obtain ⟨x, L, tn, kd, kn, rows, rows', rfl, c, kk, hl, q⟩ := h
    have hr_Calls_tellings := hr
    have hu := hu_of hr
    refine ⟨_, (q_pss_cons (q_ps_set (i := 4) sc_Calls_worths_by_day.nd rfl (by first | exact Or.inl rfl | exact Or.inr (Or.inl rfl) | exact Or.inr rfl) q_pe_dnewK)
      (q_pss_cons (q_ps_for PassesOwn.never rfl (q_pi_list (q_pe_meth (q_pv 0) T.cl_Calls T.m_Calls_tellings G_Calls_tellings hr_Calls_tellings T.b_Calls_tellings .nil pass0 (q_pa_cons (q_pv 3) q_pa_nil star_Name))) (q_pg_tup (by rfl) (q_pgs_cons (q_pg_name (i := 5) sc_Calls_worths_by_day.nd rfl (by first | exact Or.inl rfl | exact Or.inr (Or.inl rfl) | exact Or.inr rfl)) (q_pgs_cons (q_pg_name (i := 6) sc_Calls_worths_by_day.nd rfl (by first | exact Or.inl rfl | exact Or.inr (Or.inl rfl) | exact Or.inr rfl)) (q_pgs_cons (q_pg_name (i := 7) sc_Calls_worths_by_day.nd rfl (by first | exact Or.inl rfl | exact Or.inr (Or.inl rfl) | exact Or.inr rfl)) (q_pgs_cons (q_pg_name (i := 8) sc_Calls_worths_by_day.nd rfl (by first | exact Or.inl rfl | exact Or.inr (Or.inl rfl) | exact Or.inr rfl)) q_pgs_nil)))))
      (q_pss_one (q_ps_if (QW.pt (q_pw_and (q_pt_cmpR op_eq (q_pv 5) (q_pv 1) (nomark _)) (q_pw_and1 (q_pt_cmpR op_eq (q_pv 6) (q_pv 2) (nomark _))))) (q_pss_one (q_ps_dput hu (q_pv 4) (q_pv 7) (q_pv 8) rfl)) q_pss_nil)))
      (q_pss_one (q_ps_ret (q_pv 4))))), ?_⟩
    intro d hd
    have s1 := same_new (o := .dK []) hd
    obtain ⟨dx, rs, hx, hL, ra⟩ := c.same s1
    refine ⟨_, rfl, x, dx, _, rfl, hx, rfl, _, rfl, x, L, kn, rows, rows', rfl, c.same s1, kk, fun L' rs' H2 h2 ra2 n2 s2 => ?_⟩
    have hd2 : H2 d = some (.dK []) := s2 _ _ upd_same
    have nLd : L' ≠ d := fun e => by rw [e, upd_same] at n2; cases n2
    have hl' : rows'.length ≤ 300 := by have := kk.len; omega
    refine ⟨L', rfl, ⟨_, SqL.of h2⟩, ?_⟩
    refine for_list (xs := rs'.map V.ref) (fun i σ H' => ∃ (o5 o6 o7 o8 : Option V), σ = [some (.ref x), some (.str tn), some (.str kd), some kn, some (.ref d), o5, o6, o7, o8] ∧ (∃ kvs, H' d = some (.dK kvs) ∧ DOf kvs (rows'.take i) tn kd) ∧ Keep d H2 H') ?_ ?_ ?_ ?_
    · exact ⟨none, none, none, none, rfl, ⟨[], hd2, .nil _ _⟩, .refl _ _⟩
    · rintro i σ H3 hi ⟨o5, o6, o7, o8, rfl, _, k3⟩
      exact SqL.of (k3 _ _ h2 nLd)
    · rintro i y σ H3 hy ⟨o5, o6, o7, o8, rfl, ⟨kvs, h3, D3⟩, k3⟩
      obtain ⟨r, hr', rfl⟩ := ref_at hy
      obtain ⟨u, hu', e⟩ := ra2.at_ i r hr'
      have nr : r ≠ d := fun z => by rw [z, hd2] at e; cases e
      have e3 := k3 _ _ e nr
      have et : rows'.take (i + 1) = rows'.take i ++ [u] := by rw [List.take_succ, hu']; rfl
      refine ⟨r, _, rfl, SqT.of e3, rfl, _, _, rfl, _, _, rfl, _, _, rfl, _, _, rfl, rfl, ?_⟩
      refine ⟨_, rfl, _, rfl, rfl, _, rfl, ?_⟩
      have skip : ¬ (u.1 = tn ∧ u.2.1 = kd) → ∃ (o5 o6 o7 o8 : Option V), ([some (.ref x), some (.str tn), some (.str kd), some kn, some (.ref d), some (.str u.1), some (.str u.2.1), some (.int u.2.2.1), some (.int u.2.2.2)] : St) = [some (.ref x), some (.str tn), some (.str kd), some kn, some (.ref d), o5, o6, o7, o8] ∧ (∃ kvs, H3 d = some (.dK kvs) ∧ DOf kvs (rows'.take (i + 1)) tn kd) ∧ Keep d H2 H3 := fun h =>
        ⟨_, _, _, _, rfl, ⟨kvs, h3, by rw [et]; exact D3.skip u h⟩, k3⟩
      refine ite2 (fun h1 => ?_) (fun h1 => ?_)
      · have h1 : u.1 = tn := by simpa using h1
        refine ⟨_, rfl, _, rfl, rfl, _, rfl, ?_⟩
        refine ite2 (fun h2 => ?_) (fun h2 => ?_)
        · have h2' : u.2.1 = kd := by simpa using h2
          refine ⟨_, rfl, _, rfl, _, rfl, d, _, rfl, DPut.k (k := .inl u.2.2.1) h3 (small1000 ?_), ?_⟩
          · have := D3.len
            have := List.length_take_le' i rows'
            omega
          · refine ⟨_, _, _, _, rfl, ⟨_, upd_same, by rw [et]; exact D3.put u h1 h2'⟩, fun b o eb nb => ?_⟩
            rw [upd_ne nb]
            exact k3 b o eb nb
        · exact skip fun z => h2 (by simpa using z.2)
      · exact skip fun z => h1 (by simpa using z.1)
    · rintro σ H3 ⟨o5, o6, o7, o8, rfl, ⟨kvs, h3, D3⟩, k3⟩
      rw [List.length_map, ra2.len, List.take_length] at D3
      refine ⟨_, rfl, q d kvs H3 h3 D3 hd ?_⟩
      intro b o eb
      exact k3 b o (s2 _ _ (s1 _ _ eb)) (ne_of_none eb hd)
end
end Ck
set_option Elab.async false
set_option linter.all false
set_option maxRecDepth 100000
set_option maxHeartbeats 4000000
namespace Ck
open PySem L2
section
variable {P : Program} {w : World} {K : PySem.W.Frag} {mg : Str → Option Value} {base : Heap} {t : Ad}
def spWorth (C : Addr) : Sp := fun vs H Q _ => ∃ (x L : Addr) (tn kd : Str) (day : Int) (kn : V) (rows rows' : List CRow), vs = [.ref x, .str tn, .str kd, .int day, kn] ∧ CallsAt C H x L rows ∧ Known kn rows rows' ∧ rows.length ≤ 300 ∧ nameOk tn = true ∧ nameOk kd = true ∧ 0 ≤ day ∧ day ≤ 9999 ∧
  ∀ r H', IsWorth rows' tn kd day r → Same H H' → Q (.int r) H'
theorem ok_worth (T : Env K mg t) : FnOk P w K mg base CX0 5 t.a_Calls_worth t.fd_Calls_worth ["self", "town", "kind", "day", "known"] (spWorth t.C_Calls) := by
  have G_check_name : FnOk P w K mg base CX0 4 t.a_check_name t.fd_check_name ["text"] spCkName := ok_ckname T
  have G_check_day : FnOk P w K mg base CX0 4 t.a_check_day t.fd_check_day ["number"] (spCkTo 9999) := ok_ckday T
  have G_Calls_worths_by_day : FnOk P w K mg base CX0 4 t.a_Calls_worths_by_day t.fd_Calls_worths_by_day ["self", "town", "kind", "known"] (spByDay t.C_Calls) := ok_byday T
  refine T.f_Calls_worth.okQ sc_Calls_worth (fun vs H Q E h => ?_) (fun cdv A outer s H vs Q E hr h => ?_)
  · obtain ⟨x, L, tn, kd, day, kn, rows, rows', rfl, _⟩ := h
    rfl
  · obtain ⟨x, L, tn, kd, day, kn, rows, rows', rfl, c, kk, hl, nt, nk, d0, d1, q⟩ := h
    have hr_check_name := hr
    have hr_check_day := hr
    have hr_Calls_worths_by_day := hr
    have hu := hu_of hr
    refine ⟨_, (q_pss_cons (q_ps_expr (q_pe_call G_check_name hr_check_name (by rfl) T.mg_check_name T.kp_check_name T.b_check_name .nil pass0 (q_pa_cons (q_pv 1) q_pa_nil star_Name)))
      (q_pss_cons (q_ps_expr (q_pe_call G_check_name hr_check_name (by rfl) T.mg_check_name T.kp_check_name T.b_check_name .nil pass0 (q_pa_cons (q_pv 2) q_pa_nil star_Name)))
      (q_pss_cons (q_ps_expr (q_pe_call G_check_day hr_check_day (by rfl) T.mg_check_day T.kp_check_day T.b_check_day .nil pass0 (q_pa_cons (q_pv 3) q_pa_nil star_Name)))
      (q_pss_cons (q_ps_set (i := 5) sc_Calls_worth.nd rfl (by first | exact Or.inl rfl | exact Or.inr (Or.inl rfl) | exact Or.inr rfl) (q_pe_meth (q_pv 0) T.cl_Calls T.m_Calls_worths_by_day G_Calls_worths_by_day hr_Calls_worths_by_day T.b_Calls_worths_by_day .nil pass0 (q_pa_cons (q_pv 1) (q_pa_cons (q_pv 2) (q_pa_cons (q_pv 4) q_pa_nil star_Name) star_Name) star_Name)))
      (q_pss_cons (q_ps_lock (q_ps_setLc (i := 6) (own := [("told", 7)]) (g := gName 7) (by rfl) sc_Calls_worth.nd rfl rfl (sw_true rfl rfl rfl (by decide +kernel)) (q_pi_keys (q_pv 5)) (blkOk_by (own := [("told", 7)]) (N := ["self", "town", "kind", "day", "known", "worths", "told_days", "told"]) (sc := defScope s_Calls_worth) (by decide +kernel)) (fun _ _ _ _ _ => (q_pg_name (i := 7) sc_Calls_worth.nd rfl (by first | exact Or.inl rfl | exact Or.inr (Or.inl rfl) | exact Or.inr rfl))) (fun _ _ _ _ _ => (q_pts_one (q_pt_cmpR op_le (q_pv 7) (q_pv 3) (nomark _)))) (fun _ _ _ _ _ => (q_pv 7))))
      (q_pss_one (q_ps_ret (q_pe_ifExp (q_pt_truth (q_pv 6) (by intro _; rfl)) (q_pe_dget hu (q_pv 5) (q_pe_callB (cr_max rfl) (by rfl) T.z_max (by decide +kernel) (q_pa_cons (q_pv 6) q_pa_nil star_Name)) (fun _ _ => rfl)) q_pe_int)))))))), ?_⟩
    refine ⟨_, rfl, tn, rfl, nt, fun H1 s1 => ⟨_, rfl, kd, rfl, nk, fun H2 s2 => ?_⟩⟩
    have s2 := s1.trans s2
    refine ⟨_, rfl, day, rfl, d0, d1, ?_⟩
    have c2 := c.same s2
    obtain ⟨dx, rs, hx, hL, ra⟩ := id c2
    refine ⟨_, rfl, x, dx, _, rfl, hx, rfl, _, rfl, _, rfl, _, rfl, x, L, tn, kd, kn, rows, rows', rfl, c2, kk, hl, fun d kvs H3 h3 D3 n3 s3 => ?_⟩
    have hl' : rows'.length ≤ 300 := by have := kk.len; omega
    have lk := D3.len
    refine ⟨d, .dK kvs, h3, trivial, fun od => ?_⟩
    refine ⟨_, rfl, d, od, rfl, .inl ⟨kvs, upd_same, fun l hl2 => ?_⟩⟩
    have nld : l ≠ d := (ne_of_none (upd_same (H := H3) (a := d) (o := .frz od (.dK kvs))) hl2).symm
    have s23 : ∀ b o, H b = some o → b ≠ d ∧ b ≠ l ∧ H3 b = some o := by
      intro b o e
      have e3 := s3 _ _ (s2 b o e)
      have nb : b ≠ d := by rintro rfl; rw [s2 b o e] at n3; cases n3
      refine ⟨nb, ?_, e3⟩
      rintro rfl
      rw [upd_ne nb, e3] at hl2; cases hl2
    refine lc_keys (kvs := kvs) (fun i H' => H' l = some (.lst ((daysTo (kvs.take i) day).map V.int)) ∧ ∀ b o, (upd H3 d (.frz od (.dK kvs))) b = some o → b ≠ l → H' b = some o) ?_ ?_ ?_ ?_
    · exact ⟨upd_same, fun b o e nb => by rw [upd_ne nb]; exact e⟩
    · rintro i H4 hi ⟨h4, k4⟩
      exact k4 _ _ upd_same nld.symm
    · rintro i k v H4 hk ⟨h4, k4⟩
      obtain ⟨dd, rfl⟩ := D3.ks (k, v) (List.mem_of_getElem? hk)
      have et : kvs.take (i + 1) = kvs.take i ++ [(Sum.inl dd, v)] := by rw [List.take_succ, hk]; rfl
      refine ⟨rfl, ?_⟩
      refine ⟨_, rfl, _, rfl, _, _, rfl, rfl, _, rfl, ?_⟩
      refine ite2 (fun h1 => ?_) (fun h1 => ?_)
      · refine ⟨_, rfl, _, h4, small1000 ?_, ?_, fun b o e nb => ?_⟩
        · rw [List.length_map]
          unfold daysTo
          rw [List.length_map]
          have := List.length_filter_le (fun p => decide (dayOf p ≤ day)) (kvs.take i)
          have := List.length_take_le' i kvs
          omega
        · rw [upd_same, et]
          unfold daysTo
          rw [List.filter_append, List.map_append, List.map_append]
          show _ = some (HO.lst (_ ++ List.map V.int (List.map dayOf (List.filter _ [(Sum.inl dd, v)]))))
          rw [List.filter_cons, if_pos (by exact h1)]
          rfl
        · rw [upd_ne nb]
          exact k4 b o e nb
      · refine ⟨?_, k4⟩
        rw [h4, et]
        unfold daysTo
        rw [List.filter_append, List.map_append, List.map_append]
        show _ = some (HO.lst (_ ++ List.map V.int (List.map dayOf (List.filter _ [(Sum.inl dd, v)]))))
        rw [List.filter_cons, if_neg (by exact h1)]
        simp
    · rintro H4 ⟨h4, k4⟩
      rw [List.take_length] at h4
      refine ⟨k4 _ _ upd_same nld.symm, ?_⟩
      have h5 : (upd H4 d (.dK kvs)) l = some (.lst ((daysTo kvs day).map V.int)) := by rw [upd_ne nld]; exact h4
      have s5 : Same H (upd H4 d (.dK kvs)) := fun b o e => by
        obtain ⟨n1, n2, e3⟩ := s23 b o e
        rw [upd_ne n1]
        exact k4 b o (by rw [upd_ne n1]; exact e3) n2
      refine ⟨_, rfl, _, .inl ⟨_, SqL.of h5, rfl⟩, ?_⟩
      cases ed : daysTo kvs day with
      | nil =>
        refine iteF ?_
        exact q 0 _ (D3.none ed) s5
      | cons y r =>
        refine iteT ?_
        refine ⟨_, rfl, _, rfl, l, y :: r, rfl, SqL.of (by rw [← ed]; exact h5), by simp, fun m hm ht => ?_⟩
        rw [← ed] at hm ht
        obtain ⟨w, hw, iw⟩ := D3.worth hm ht
        exact ⟨d, _, rfl, (by have z := DGet.k (k := Sum.inl m) (upd_same (H := H4) (a := d) (o := .dK kvs)); rw [hw] at z; exact z), q w _ iw s5⟩
end
end Ck
set_option Elab.async false
set_option linter.all false
set_option maxRecDepth 100000
set_option maxHeartbeats 4000000
namespace Ck
open PySem L2
section
variable {P : Program} {w : World} {K : PySem.W.Frag} {mg : Str → Option Value} {base : Heap} {t : Ad}
def spIs : Sp := fun vs H Q _ => ∃ (n m : Int), vs = [.int n, .int m] ∧ n = m ∧ Q (.bl true) H
theorem ok_is (T : Env K mg t) : FnOk P w K mg base CX0 1 t.a_l_is t.fd_l_is ["_law_found", "_law_due_here"] spIs := by
  refine T.f_l_is.okQ sc_l_is (fun vs H Q E h => ?_) (fun cdv A outer s H vs Q E hr h => ?_)
  · obtain ⟨n, m, rfl, _⟩ := h
    rfl
  · obtain ⟨n, m, rfl, rfl, q⟩ := h
    refine ⟨_, (q_pss_one (q_ps_ret (q_pe_and (q_pe_callB call_isinst (by rfl) T.z_isinstance (by decide +kernel) (q_pa_cons (q_pv 0) (q_pa_cons (q_pe_bltn (v := .ty "int") (by rfl) T.z_int (by decide +kernel) rfl) q_pa_nil star_Name) star_Name)) (q_pe_and (q_pe_not (q_pe_callB call_isinst (by rfl) T.z_isinstance (by decide +kernel) (q_pa_cons (q_pv 0) (q_pa_cons (q_pe_bltn (v := .ty "bool") (by rfl) T.z_bool (by decide +kernel) rfl) q_pa_nil star_Name) star_Name))) (q_pe_one (q_pe_cmpR op_eq (q_pv 0) (q_pv 1) (nomark _))))))), ?_⟩
    refine ⟨_, rfl, _, "int", _, _, rfl, .int n, kit_same, _, rfl, iteT ?_⟩
    refine ⟨_, rfl, _, "bool", _, _, rfl, .int n, kit_int_bool, _, rfl, _, rfl, iteT ?_⟩
    refine ⟨_, rfl, _, rfl, rfl, ?_⟩
    rw [decide_eq_true rfl]
    exact q
def spEdge (K : PySem.W.Frag) : Sp := fun vs H Q _ => ∃ (d a : Addr) (ns : List Int) (z : Int), vs = [.ref d, .int z] ∧ DrawAt K H d a ns ∧ 1 ≤ z ∧
  ∀ (r : Int) (H' : Hp), 0 ≤ r → r ≤ z → DrawAt K H' d a ns → Keep d H H' → Q (.int r) H'
theorem ok_edge (T : Env K mg t) : FnOk P w K mg base CX0 3 t.a_l_edge t.fd_l_edge ["_law_draw", "_law_most"] (spEdge K) := by
  have G_l_next : FnOk P w K mg base CX0 2 t.a_l_next t.fd_l_next ["_law_draw", "_law_size"] (spNext K) := ok_next T
  refine T.f_l_edge.okQ sc_l_edge (fun vs H Q E h => ?_) (fun cdv A outer s H vs Q E hr h => ?_)
  · obtain ⟨d, a, ns, z, rfl, _⟩ := h
    rfl
  · obtain ⟨d, a, ns, z, rfl, D, hz, q⟩ := h
    have hr_l_next := hr
    refine ⟨_, (q_pss_cons (q_ps_set (i := 2) sc_l_edge.nd rfl (by first | exact Or.inl rfl | exact Or.inr (Or.inl rfl) | exact Or.inr rfl) (q_pe_call G_l_next hr_l_next (by rfl) T.mg_l_next T.kp_l_next T.b_l_next .nil pass0 (q_pa_cons (q_pv 0) (q_pa_cons q_pe_int q_pa_nil star_Constant) star_Name)))
      (q_pss_cons (q_ps_if (q_pt_cmpR op_lt (q_pv 2) q_pe_int (nomark _)) (q_pss_one (q_ps_ret (q_pe_ix ix_list (q_pe_lst (q_pa_cons q_pe_int (q_pa_cons q_pe_int (q_pa_cons (q_pe_op op_sub (q_pv 1) q_pe_int) (q_pa_cons (q_pv 1) q_pa_nil star_Name) star_BinOp) star_Constant) star_Constant)) (q_pv 2) (fun _ _ => rfl)))) q_pss_nil)
      (q_pss_one (q_ps_ret (q_pe_call G_l_next hr_l_next (by rfl) T.mg_l_next T.kp_l_next T.b_l_next .nil pass0 (q_pa_cons (q_pv 0) (q_pa_cons (q_pe_op op_add (q_pv 1) q_pe_int) q_pa_nil star_BinOp) star_Name)))))), ?_⟩
    refine ⟨_, rfl, d, a, ns, _, rfl, D, by decide, fun r H1 r0 r1 D1 k1 => ?_⟩
    refine ⟨_, rfl, _, _, rfl, rfl, _, rfl, ?_⟩
    refine ite2 (fun h1 => ?_) (fun h1 => ?_)
    · have h1 : r < 4 := by simpa using h1
      refine ⟨_, rfl, _, _, rfl, rfl, _, rfl, (by show 4 ≤ sizeLine; decide), fun p hp => ?_⟩
      obtain ⟨v, hv, hm⟩ := at_bound (xs := [V.int 0, V.int 1, V.int (z - 1), V.int z]) r0 h1
      refine ⟨_, rfl, p, _, r, v, rfl, rfl, SqL.of upd_same, hv, ?_⟩
      have k2 := k1.trans (.of (same_new (o := .lst [V.int 0, V.int 1, V.int (z - 1), V.int z]) hp))
      have D2 := D1.same (same_new (o := .lst [V.int 0, V.int 1, V.int (z - 1), V.int z]) hp)
      simp only [List.mem_cons, List.not_mem_nil, or_false] at hm
      rcases hm with rfl | rfl | rfl | rfl
      · exact q 0 _ (by omega) (by omega) D2 k2
      · exact q 1 _ (by omega) (by omega) D2 k2
      · exact q (z - 1) _ (by omega) (by omega) D2 k2
      · exact q z _ (by omega) (by omega) D2 k2
    · refine ⟨_, rfl, _, rfl, _, _, rfl, rfl, d, a, ns, _, rfl, D1, by omega, fun r' H2 r0' r1' D2 k2 => ?_⟩
      exact q r' H2 r0' (by omega) D2 (k1.trans k2)
end
end Ck
set_option Elab.async false
set_option linter.all false
set_option maxRecDepth 100000
set_option maxHeartbeats 4000000
namespace Ck
open PySem L2
section
variable {P : Program} {w : World} {K : PySem.W.Frag} {mg : Str → Option Value} {base : Heap} {t : Ad}
def spDay (K : PySem.W.Frag) : Sp := fun vs H Q _ => ∃ (d a p : Addr) (ns ds : List Int), vs = [.ref d, .ref p] ∧ DrawAt K H d a ns ∧ H p = some (.lst (ds.map V.int)) ∧ p ≠ d ∧ (∀ n ∈ ds, 0 ≤ n ∧ n ≤ 9999) ∧
  ∀ (r : Int) (H' : Hp), 0 ≤ r → r ≤ 9999 → DrawAt K H' d a ns → Keep d H H' → Q (.int r) H'
theorem ok_lday (T : Env K mg t) : FnOk P w K mg base CX0 3 t.a_l_day t.fd_l_day ["_law_draw", "_law_days"] (spDay K) := by
  have G_l_next : FnOk P w K mg base CX0 2 t.a_l_next t.fd_l_next ["_law_draw", "_law_size"] (spNext K) := ok_next T
  refine T.f_l_day.okQ sc_l_day (fun vs H Q E h => ?_) (fun cdv A outer s H vs Q E hr h => ?_)
  · obtain ⟨d, a, p, ns, ds, rfl, _⟩ := h
    rfl
  · obtain ⟨d, a, p, ns, ds, rfl, D, hp, np, hds, q⟩ := h
    have hr_l_next := hr
    refine ⟨_, (q_pss_cons (q_ps_set (i := 2) sc_l_day.nd rfl (by first | exact Or.inl rfl | exact Or.inr (Or.inl rfl) | exact Or.inr rfl) (q_pe_call G_l_next hr_l_next (by rfl) T.mg_l_next T.kp_l_next T.b_l_next .nil pass0 (q_pa_cons (q_pv 0) (q_pa_cons q_pe_int q_pa_nil star_Constant) star_Name)))
      (q_pss_cons (q_ps_if (QW.pt (q_pw_and (q_pt_cmpR op_lt (q_pv 2) q_pe_int (nomark _)) (q_pw_and1 (q_pt_cmpR (op_neD hr.units) (q_pv 1) (q_pe_lst q_pa_nil) (nomark _))))) (q_pss_one (q_ps_ret (q_pe_callB (call_max2 rfl) (by rfl) T.z_max (by decide +kernel) (q_pa_cons q_pe_int (q_pa_cons (q_pe_callB (call_min2 rfl) (by rfl) T.z_min (by decide +kernel) (q_pa_cons q_pe_int (q_pa_cons (q_pe_op op_sub (q_pe_op op_add (q_pe_ix ix_list (q_pv 1) (q_pe_call G_l_next hr_l_next (by rfl) T.mg_l_next T.kp_l_next T.b_l_next .nil pass0 (q_pa_cons (q_pv 0) (q_pa_cons (q_pe_callB call_len_seq (by rfl) T.z_len PySem.boot_len (q_pa_cons (q_pv 1) q_pa_nil star_Name)) q_pa_nil star_Call) star_Name)) (fun _ _ => rfl)) (q_pv 2)) q_pe_int) q_pa_nil star_BinOp) star_Constant)) q_pa_nil star_Call) star_Constant)))) q_pss_nil)
      (q_pss_cons (q_ps_if (q_pt_cmpR op_lt (q_pv 2) q_pe_int (nomark _)) (q_pss_one (q_ps_ret (q_pe_ix ix_list (q_pe_lst (q_pa_cons (q_pe_call G_l_next hr_l_next (by rfl) T.mg_l_next T.kp_l_next T.b_l_next .nil pass0 (q_pa_cons (q_pv 0) (q_pa_cons q_pe_int q_pa_nil star_Constant) star_Name)) (q_pa_cons (q_pe_op op_sub q_pe_int (q_pe_call G_l_next hr_l_next (by rfl) T.mg_l_next T.kp_l_next T.b_l_next .nil pass0 (q_pa_cons (q_pv 0) (q_pa_cons q_pe_int q_pa_nil star_Constant) star_Name))) q_pa_nil star_BinOp) star_Call)) (q_pe_op op_mod (q_pv 2) q_pe_int) (fun _ _ => rfl)))) q_pss_nil)
      (q_pss_one (q_ps_ret (q_pe_call G_l_next hr_l_next (by rfl) T.mg_l_next T.kp_l_next T.b_l_next .nil pass0 (q_pa_cons (q_pv 0) (q_pa_cons q_pe_int q_pa_nil star_Constant) star_Name))))))), ?_⟩
    refine ⟨_, rfl, d, a, ns, _, rfl, D, by decide, fun at_ H1 a0 a1 D1 k1 => ?_⟩
    have hp1 := k1 _ _ hp np
    refine ⟨_, rfl, _, _, rfl, rfl, _, rfl, ?_⟩
    refine ite2 (fun h1 => ?y) (fun h1 => ?n)
    case' y =>
      refine ⟨_, rfl, (by decide), fun l hl => ?_⟩
      have s2 := same_new (o := .lst []) hl
      have D2 := D1.same s2
      have k2 := k1.trans (.of s2)
      have hp2 := s2 _ _ hp1
      refine ⟨.list (ds.map .int), .list [], .lst (SqL.of hp2) (dp_ints ds), .lst (SqL.of upd_same) .nil, shaped_ints ds, rfl, _, rfl, ?_⟩
      rw [eqv_nil]
      cases ds
      case cons z zs =>
        refine iteT ?_
        refine ⟨_, rfl, _, rfl, _, rfl, p, _, rfl, .inl (SqL.of hp2), d, a, ns, _, rfl, D2, (by rw [List.length_map]; simp only [List.length_cons]; omega), fun r H3 r0 r1 D3 k3 => ?_⟩
        obtain ⟨v, hv, hm⟩ := at_bound (xs := (z :: zs).map V.int) r0 r1
        obtain ⟨n, hn, rfl⟩ := List.mem_map.mp hm
        refine ⟨p, _, r, _, rfl, rfl, SqL.of (k3 _ _ hp2 np), hv, _, rfl, _, _, rfl, rfl, _, _, rfl, rfl, _, _, rfl, _, _, rfl, ?_⟩
        refine q _ H3 ?_ ?_ D3 (k2.trans k3)
        · split <;> (try split) <;> omega
        · split <;> (try split) <;> omega
      case' nil => refine iteF ?_
    case' n =>
      have D2 := D1
      have k2 := k1
    all_goals
      refine ⟨_, rfl, _, _, rfl, rfl, _, rfl, ?_⟩
      refine ite2 (fun h2 => ?_) (fun h2 => ?_)
      · refine ⟨_, rfl, d, a, ns, _, rfl, D2, by decide, fun r H3 r0 r1 D3 k3 => ?_⟩
        refine ⟨_, rfl, d, a, ns, _, rfl, D3, by decide, fun r' H4 r0' r1' D4 k4 => ?_⟩
        refine ⟨_, _, rfl, rfl, (by show 2 ≤ sizeLine; decide), fun l2 hl2 => ?_⟩
        have s5 := same_new (o := .lst [V.int r, V.int (9999 - r')]) hl2
        have e0 := Int.emod_nonneg at_ (show (2 : Int) ≠ 0 by decide)
        have e1 := Int.emod_lt_of_pos at_ (show (0 : Int) < 2 by decide)
        obtain ⟨v, hv, hm⟩ := at_bound (xs := [V.int r, V.int (9999 - r')]) e0 e1
        refine ⟨_, rfl, _, _, rfl, rfl, (by show (0 : Int) < 2; decide), l2, _, _, v, rfl, rfl, SqL.of upd_same, hv, ?_⟩
        have D5 := D4.same s5
        have k5 := ((k2.trans k3).trans k4).trans (.of s5)
        simp only [List.mem_cons, List.not_mem_nil, or_false] at hm
        rcases hm with rfl | rfl
        · exact q _ _ (by omega) (by omega) D5 k5
        · exact q _ _ (by omega) (by omega) D5 k5
      · refine ⟨_, rfl, d, a, ns, _, rfl, D2, by decide, fun r H3 r0 r1 D3 k3 => ?_⟩
        exact q _ _ r0 (by omega) D3 (k2.trans k3)
end
end Ck
set_option Elab.async false
set_option linter.all false
set_option maxRecDepth 100000
set_option maxHeartbeats 4000000
namespace Ck
open PySem L2
section
variable {P : Program} {w : World} {K : PySem.W.Frag} {mg : Str → Option Value} {base : Heap} {t : Ad}
def LRows (H : Hp) (L : Addr) (rows : List CRow) : Prop := ∃ rs : List Addr, H L = some (.lst (rs.map V.ref)) ∧ RowsAt H rs rows
theorem LRows.same {H H' : Hp} {L : Addr} {rows : List CRow} (c : LRows H L rows) (s : Same H H') : LRows H' L rows := let ⟨rs, h, r⟩ := c; ⟨rs, s _ _ h, r.mono (.same s)⟩
theorem LRows.keep {H H' : Hp} {L d : Addr} {rows : List CRow} {xs : List V} (c : LRows H L rows) (k : Keep d H H') (hd : H d = some (.lst xs)) (nL : L ≠ d) : LRows H' L rows := let ⟨rs, h, r⟩ := c; ⟨rs, k _ _ h nL, r.mono (k.tups hd)⟩
def GoodRow (r : CRow) : Prop := nameOk r.1 = true ∧ nameOk r.2.1 = true ∧ 0 ≤ r.2.2.1 ∧ r.2.2.1 ≤ 9999 ∧ 0 ≤ r.2.2.2 ∧ r.2.2.2 ≤ 1000000
theorem exists_max : ∀ {l : List Int}, l ≠ [] → ∃ m, m ∈ l ∧ ∀ y ∈ l, y ≤ m
  | [], h => absurd rfl h
  | [x], _ => ⟨x, by simp, fun y hy => by rw [List.mem_singleton.mp hy]; exact Int.le_refl _⟩
  | x :: y :: r, _ => by
    obtain ⟨m, hm, ht⟩ := exists_max (l := y :: r) (by simp)
    by_cases h : x ≤ m
    · refine ⟨m, List.mem_cons_of_mem _ hm, fun z hz => ?_⟩
      rcases List.mem_cons.mp hz with rfl | hz
      · exact h
      · exact ht z hz
    · refine ⟨x, List.mem_cons_self, fun z hz => ?_⟩
      rcases List.mem_cons.mp hz with rfl | hz
      · exact Int.le_refl _
      · have := ht z hz; omega
def spDue : Sp := fun vs H Q _ => ∃ (L : Addr) (tn kd : Str) (day : Int) (rows : List CRow), vs = [.ref L, .str tn, .str kd, .int day] ∧ LRows H L rows ∧ rows.length ≤ 300 ∧ (∀ r ∈ rows, GoodRow r) ∧ nameOk tn = true ∧ nameOk kd = true ∧
  ∀ r H', IsWorth rows tn kd day r → Same H H' → Q (.int r) H'
theorem ok_due (T : Env K mg t) : FnOk P w K mg base CX0 1 t.a_l_due t.fd_l_due ["_law_rows", "_law_town", "_law_kind", "_law_day_here"] spDue := by
  refine T.f_l_due.okQ sc_l_due (fun vs H Q E h => ?_) (fun cdv A outer s H vs Q E hr h => ?_)
  · obtain ⟨L, tn, kd, day, rows, rfl, _⟩ := h
    rfl
  · obtain ⟨L, tn, kd, day, rows, rfl, c, hl, good, nt, nk, q⟩ := h
    refine ⟨_, (q_pss_cons (q_ps_set (i := 4) sc_l_due.nd rfl (by first | exact Or.inl rfl | exact Or.inr (Or.inl rfl) | exact Or.inr rfl) (q_pe_lc (own := [("_law_row_here", 5)]) (g := gName 5) (by rfl) sc_l_due.nd (q_pi_list (q_pv 0)) (blkOk_by (own := [("_law_row_here", 5)]) (N := ["_law_rows", "_law_town", "_law_kind", "_law_day_here", "_law_days", "_law_row_here"]) (sc := defScope s_l_due) (by decide +kernel)) (fun _ _ _ _ _ => (q_pg_name (i := 5) sc_l_due.nd rfl (by first | exact Or.inl rfl | exact Or.inr (Or.inl rfl) | exact Or.inr rfl))) (fun _ _ _ _ _ => (q_pts_one (QW.pt (q_pw_and (q_pt_cmpR (op_eqDK (K := K) rfl hr.units) (q_pe_slice (sl_tupK (K := K) rfl) (q_pv 5) q_po_none (q_po_some q_pe_int)) (q_pe_tup (q_pa_cons (q_pv 1) (q_pa_cons (q_pv 2) q_pa_nil star_Name) star_Name)) (nomark _)) (q_pw_and1 (q_pt_cmpR op_le (q_pe_ix (ix_tupK (K := K) rfl) (q_pv 5) q_pe_int (fun _ _ => rfl)) (q_pv 3) (nomark _))))))) (fun _ _ _ _ _ => (q_pe_ix (ix_tupK (K := K) rfl) (q_pv 5) q_pe_int (fun _ _ => rfl)))))
      (q_pss_cons (q_ps_if (q_pt_cmpR (op_eqD hr.units) (q_pv 4) (q_pe_lst q_pa_nil) (nomark _)) (q_pss_one (q_ps_ret q_pe_int)) q_pss_nil)
      (q_pss_one (q_ps_ret (q_pe_ix ix_list (q_pe_lc (own := [("_law_row_here", 5)]) (g := gName 5) (by rfl) sc_l_due.nd (q_pi_list (q_pv 0)) (blkOk_by (own := [("_law_row_here", 5)]) (N := ["_law_rows", "_law_town", "_law_kind", "_law_day_here", "_law_days", "_law_row_here"]) (sc := defScope s_l_due) (by decide +kernel)) (fun _ _ _ _ _ => (q_pg_name (i := 5) sc_l_due.nd rfl (by first | exact Or.inl rfl | exact Or.inr (Or.inl rfl) | exact Or.inr rfl))) (fun _ _ _ _ _ => (q_pts_one (q_pt_cmpR (op_eqDK (K := K) rfl hr.units) (q_pe_slice (sl_tupK (K := K) rfl) (q_pv 5) q_po_none (q_po_some q_pe_int)) (q_pe_tup (q_pa_cons (q_pv 1) (q_pa_cons (q_pv 2) (q_pa_cons (q_pe_callB (cr_maxK (K := K) rfl rfl) (by rfl) T.z_max (by decide +kernel) (q_pa_cons (q_pv 4) q_pa_nil star_Name)) q_pa_nil star_Call) star_Name) star_Name)) (nomark _)))) (fun _ _ _ _ _ => (q_pe_ix (ix_tupK (K := K) rfl) (q_pv 5) q_pe_int (fun _ _ => rfl)))) (q_pe_un un_neg q_pe_int) (fun _ _ => rfl)))))), ?_⟩
    obtain ⟨rs, hL, ra⟩ := id c
    have lr := ra.len
    refine ⟨_, rfl, L, rfl, ⟨_, SqL.of hL⟩, fun l hl2 => ?_⟩
    have nl : L ≠ l := ne_of_none hL hl2
    refine lc_list (xs := rs.map V.ref) (fun i H' => H' l = some (.lst (((rows.take i).filter (isTKto tn kd day)).map fun r => V.int r.2.2.1)) ∧ Same H H') ?_ ?_ ?_ ?_
    · exact ⟨upd_same, same_new hl2⟩
    · rintro i H1 hi ⟨_, s1⟩
      exact SqL.of (s1 _ _ hL)
    · rintro i y H1 hy ⟨h1, s1⟩
      obtain ⟨r, hr', rfl⟩ := ref_at hy
      obtain ⟨u, hu, e⟩ := ra.at_ i r hr'
      have gu := good u (List.mem_of_getElem? hu)
      have e1 := s1 _ _ e
      refine ⟨rfl, ?_⟩
      refine ⟨_, rfl, 2, rfl, r, _, rfl, SqT.of e1, (fun z => absurd z.2 (by show ¬ (2 = 4); decide)), fun p2 hp2 => ?_⟩
      have s2 := same_new (o := .tup (cutV (rowVs u) none (some 2))) hp2
      refine ⟨_, rfl, _, rfl, (by show 2 ≤ sizeLine; decide), fun p3 hp3 => ?_⟩
      have s3 := same_new (o := .tup [V.str tn, V.str kd]) hp3
      have hp2' := s3 _ _ (new_at (o := .tup (cutV (rowVs u) none (some 2))) hp2)
      rw [cut_row2] at hp2'
      refine ⟨_, _, dp_pair hp2', dp_pair upd_same, shaped_pair (nameOk.okt gu.1) (nameOk.okt gu.2.1), shaped_pair (nameOk.okt nt) (nameOk.okt nk), _, rfl, ?_⟩
      rw [eqv_pair]
      have s13 := (s1.trans s2).trans s3
      have h3 := s3 _ _ (s2 _ _ h1)
      have e3 := s3 _ _ (s2 _ _ e1)
      have yes : isTKto tn kd day u = true → ∃ acc, (upd (upd H1 p2 (.tup (cutV (rowVs u) none (some 2)))) p3 (.tup [V.str tn, V.str kd])) l = some (.lst acc) ∧ acc.length < sizeLine ∧ (upd (upd (upd H1 p2 (.tup (cutV (rowVs u) none (some 2)))) p3 (.tup [V.str tn, V.str kd])) l (.lst (acc ++ [V.int u.2.2.1]))) l = some (.lst (((rows.take (i + 1)).filter (isTKto tn kd day)).map fun r => V.int r.2.2.1)) ∧ Same H (upd (upd (upd H1 p2 (.tup (cutV (rowVs u) none (some 2)))) p3 (.tup [V.str tn, V.str kd])) l (.lst (acc ++ [V.int u.2.2.1]))) := fun hb =>
        ⟨_, h3, small1000 (by have := filtm_len (ns := rows) (p := isTKto tn kd day) (f := fun r => V.int r.2.2.1) (i := i); omega), by rw [upd_same, filtm_yes hu hb], fun b o e => by rw [upd_ne (ne_of_none e hl2)]; exact s13 b o e⟩
      have no : ¬ isTKto tn kd day u = true → (upd (upd H1 p2 (.tup (cutV (rowVs u) none (some 2)))) p3 (.tup [V.str tn, V.str kd])) l = some (.lst (((rows.take (i + 1)).filter (isTKto tn kd day)).map fun r => V.int r.2.2.1)) ∧ Same H (upd (upd H1 p2 (.tup (cutV (rowVs u) none (some 2)))) p3 (.tup [V.str tn, V.str kd])) := fun hb => ⟨by rw [h3, filtm_no hu hb], s13⟩
      refine ite2 (fun g1 => ?_) (fun g1 => ?_)
      · refine ⟨_, rfl, r, _, 2, _, rfl, rfl, SqT.of e3, at_of (j := 2) (by decide) rfl, _, rfl, _, _, rfl, rfl, _, rfl, ?_⟩
        refine ite2 (fun g2 => ?_) (fun g2 => ?_)
        · refine ⟨_, rfl, r, _, 2, _, rfl, rfl, SqT.of e3, at_of (j := 2) (by decide) rfl, ?_⟩
          exact yes (by rw [Bool.and_eq_true]; exact ⟨g1, g2⟩)
        · exact no fun z => g2 (by rw [Bool.and_eq_true] at z; exact z.2)
      · exact no fun z => g1 (by rw [Bool.and_eq_true] at z; exact z.1)
    · rintro H1 ⟨h1, s1⟩
      rw [List.length_map, lr, List.take_length] at h1
      have em : ((rows.filter (isTKto tn kd day)).map fun r => V.int r.2.2.1) = (daysIn rows tn kd day).map V.int := by rw [List.map_map]; rfl
      rw [em] at h1
      refine ⟨_, rfl, (by decide), fun l3 hl3 => ?_⟩
      have s3 := same_new (o := .lst []) hl3
      refine ⟨.list ((daysIn rows tn kd day).map .int), .list [], .lst (SqL.of (s3 _ _ h1)) (dp_ints _), .lst (SqL.of upd_same) .nil, shaped_ints _, rfl, _, rfl, ?_⟩
      rw [eqv_nil]
      have s13 := s1.trans s3
      have h3 := s3 _ _ h1
      cases ed : daysIn rows tn kd day with
      | nil =>
        refine iteT ?_
        exact q 0 _ (due_none ed) s13
      | cons z zs =>
        refine iteF ?_
        obtain ⟨M, hM, tM⟩ := exists_max (l := daysIn rows tn kd day) (by rw [ed]; exact fun z => by cases z)
        obtain ⟨w, hw, iw⟩ := due_some hM tM
        have hL3 := s13 _ _ hL
        refine ⟨_, rfl, L, rfl, ⟨_, SqL.of hL3⟩, fun l4 hl4 => ?_⟩
        refine lc_list (xs := rs.map V.ref) (fun i H' => H' l4 = some (.lst (((rows.take i).filter (isTKD tn kd M)).map fun r => V.int r.2.2.2)) ∧ Same (upd H1 l3 (.lst [])) H') ?_ ?_ ?_ ?_
        · exact ⟨upd_same, same_new hl4⟩
        · rintro i H5 hi ⟨_, s5⟩
          exact SqL.of (s5 _ _ hL3)
        · rintro i y H5 hy ⟨h5, s5⟩
          obtain ⟨r, hr', rfl⟩ := ref_at hy
          obtain ⟨u, hu, e⟩ := ra.at_ i r hr'
          have gu := good u (List.mem_of_getElem? hu)
          have e5 := s5 _ _ (s13 _ _ e)
          refine ⟨rfl, ?_⟩
          refine ⟨_, rfl, 3, rfl, r, _, rfl, SqT.of e5, (fun z => absurd z.2 (by show ¬ (3 = 4); decide)), fun p2 hp2 => ?_⟩
          have s6 := same_new (o := .tup (cutV (rowVs u) none (some 3))) hp2
          refine ⟨_, rfl, _, rfl, _, rfl, l, daysIn rows tn kd day, rfl, SqL.of (s6 _ _ (s5 _ _ h3)), (by rw [ed]; simp), fun m hm ht => ?_⟩
          have em2 : m = M := by
            have a1 := tM m hm
            have a2 := ht M hM
            omega
          rw [em2]
          refine ⟨(by show 3 ≤ sizeLine; decide), fun p3 hp3 => ?_⟩
          have s7 := same_new (o := .tup [V.str tn, V.str kd, V.int M]) hp3
          have hp2' := s7 _ _ (new_at (o := .tup (cutV (rowVs u) none (some 3))) hp2)
          rw [cut_row3] at hp2'
          refine ⟨_, _, dp_three hp2', dp_three upd_same, shaped_three (nameOk.okt gu.1) (nameOk.okt gu.2.1), shaped_three (nameOk.okt nt) (nameOk.okt nk), _, rfl, ?_⟩
          rw [eqv_three]
          have h7 := s7 _ _ (s6 _ _ h5)
          have e7 := s7 _ _ (s6 _ _ e5)
          have s57 := (s5.trans s6).trans s7
          refine ite2 (fun g1 => ?_) (fun g1 => ?_)
          · refine ⟨_, rfl, r, _, 3, _, rfl, rfl, SqT.of e7, at_of (j := 3) (by decide) rfl, ?_⟩
            refine ⟨_, h7, small1000 (by have := filtm_len (ns := rows) (p := isTKD tn kd M) (f := fun r => V.int r.2.2.2) (i := i); omega), by rw [upd_same, filtm_yes hu g1], fun b o e => ?_⟩
            rw [upd_ne (ne_of_none e hl4)]; exact s57 b o e
          · exact ⟨by rw [h7, filtm_no hu g1], s57⟩
        · rintro H5 ⟨h5, s5⟩
          rw [List.length_map, lr, List.take_length] at h5
          have hg : ((rows.filter (isTKD tn kd M)).map fun r => V.int r.2.2.2).getLast? = some (.int w) := by
            have : ((rows.filter (isTKD tn kd M)).map fun r => V.int r.2.2.2) = (((rows.filter (isTKD tn kd M)).map fun r => r.2.2.2)).map V.int := by rw [List.map_map]; rfl
            rw [this, List.getLast?_map, hw]; rfl
          refine ⟨_, rfl, l4, _, -1, _, rfl, rfl, SqL.of h5, at_last hg, ?_⟩
          exact q w _ iw (s13.trans s5)
end
end Ck
set_option Elab.async false
set_option linter.all false
set_option maxRecDepth 100000
set_option maxHeartbeats 4000000
namespace Ck
open PySem L2
section
variable {P : Program} {w : World} {K : PySem.W.Frag} {mg : Str → Option Value} {base : Heap} {t : Ad}
theorem days_bound {rows : List CRow} (g : ∀ r ∈ rows, GoodRow r) : ∀ n ∈ rows.map (fun r => r.2.2.1), 0 ≤ n ∧ n ≤ 9999 := by
  intro n hn
  obtain ⟨r, hr, rfl⟩ := List.mem_map.mp hn
  exact ⟨(g r hr).2.2.1, (g r hr).2.2.2.1⟩
def spRow (K : PySem.W.Frag) : Sp := fun vs H Q _ => ∃ (d a Lt Lk Lr : Addr) (ns : List Int) (ts ks : List Str) (rows : List CRow), vs = [.ref d, .ref Lt, .ref Lk, .ref Lr] ∧ DrawAt K H d a ns ∧ H Lt = some (.lst (ts.map V.str)) ∧ H Lk = some (.lst (ks.map V.str)) ∧ 0 < ts.length ∧ 0 < ks.length ∧ (∀ x ∈ ts, nameOk x = true) ∧ (∀ x ∈ ks, nameOk x = true) ∧ Lt ≠ d ∧ Lk ≠ d ∧ Lr ≠ d ∧ LRows H Lr rows ∧ rows.length ≤ 300 ∧ (∀ r ∈ rows, GoodRow r) ∧
  ∀ (p : Addr) (r : CRow) (H' : Hp), GoodRow r → r.1 ∈ ts → r.2.1 ∈ ks → H' p = some (.tup (rowVs r)) → H p = none → DrawAt K H' d a ns → Keep d H H' → Q (.ref p) H'
theorem ok_row (T : Env K mg t) : FnOk P w K mg base CX0 4 t.a_l_row t.fd_l_row ["_law_draw", "_law_towns", "_law_kinds", "_law_rows"] (spRow K) := by
  have G_l_next : FnOk P w K mg base CX0 2 t.a_l_next t.fd_l_next ["_law_draw", "_law_size"] (spNext K) := ok_next T
  have G_l_edge : FnOk P w K mg base CX0 3 t.a_l_edge t.fd_l_edge ["_law_draw", "_law_most"] (spEdge K) := ok_edge T
  have G_l_day : FnOk P w K mg base CX0 3 t.a_l_day t.fd_l_day ["_law_draw", "_law_days"] (spDay K) := ok_lday T
  refine T.f_l_row.okQ sc_l_row (fun vs H Q E h => ?_) (fun cdv A outer s H vs Q E hr h => ?_)
  · obtain ⟨d, a, Lt, Lk, Lr, ns, ts, ks, rows, rfl, _⟩ := h
    rfl
  · obtain ⟨d, a, Lt, Lk, Lr, ns, ts, ks, rows, rfl, D, ht, hk, t0, k0, nts, nks, nT, nK, nR, lr, hl300, good, q⟩ := h
    have hr_l_next : Room 2 _ := hr.mono (by decide)
    have hr_l_edge := hr
    have hr_l_day := hr
    refine ⟨_, (q_pss_cons (q_ps_par (i := 4) (j := 5) (by rfl) sc_l_row.nd rfl rfl (by decide) rfl rfl (q_pa_cons (q_pe_ix ix_list (q_pv 1) (q_pe_call G_l_next hr_l_next (by rfl) T.mg_l_next T.kp_l_next T.b_l_next .nil pass0 (q_pa_cons (q_pv 0) (q_pa_cons (q_pe_callB call_len_seq (by rfl) T.z_len PySem.boot_len (q_pa_cons (q_pv 1) q_pa_nil star_Name)) q_pa_nil star_Call) star_Name)) (fun _ _ => rfl)) (q_pa_cons (q_pe_ix ix_list (q_pv 2) (q_pe_call G_l_next hr_l_next (by rfl) T.mg_l_next T.kp_l_next T.b_l_next .nil pass0 (q_pa_cons (q_pv 0) (q_pa_cons (q_pe_callB call_len_seq (by rfl) T.z_len PySem.boot_len (q_pa_cons (q_pv 2) q_pa_nil star_Name)) q_pa_nil star_Call) star_Name)) (fun _ _ => rfl)) q_pa_nil star_Subscript) star_Subscript) (by rfl))
      (q_pss_one (q_ps_ret (q_pe_tup (q_pa_cons (q_pv 4) (q_pa_cons (q_pv 5) (q_pa_cons (q_pe_call G_l_day hr_l_day (by rfl) T.mg_l_day T.kp_l_day T.b_l_day .nil pass0 (q_pa_cons (q_pv 0) (q_pa_cons (q_pe_lc (own := [("_law_row_here", 6)]) (g := gName 6) (by rfl) sc_l_row.nd (q_pi_list (q_pv 3)) (blkOk_by (own := [("_law_row_here", 6)]) (N := ["_law_draw", "_law_towns", "_law_kinds", "_law_rows", "_law_town", "_law_kind", "_law_row_here"]) (sc := defScope s_l_row) (by decide +kernel)) (fun _ _ _ _ _ => (q_pg_name (i := 6) sc_l_row.nd rfl (by first | exact Or.inl rfl | exact Or.inr (Or.inl rfl) | exact Or.inr rfl))) (fun _ _ _ _ _ => q_pts_nil) (fun _ _ _ _ _ => (q_pe_ix (ix_tupK (K := K) rfl) (q_pv 6) q_pe_int (fun _ _ => rfl)))) q_pa_nil star_ListComp) star_Name)) (q_pa_cons (q_pe_call G_l_edge hr_l_edge (by rfl) T.mg_l_edge T.kp_l_edge T.b_l_edge .nil pass0 (q_pa_cons (q_pv 0) (q_pa_cons q_pe_int q_pa_nil star_Constant) star_Name)) q_pa_nil star_Call) star_Call) star_Name) star_Name))))), ?_⟩
    refine ⟨_, rfl, _, rfl, _, rfl, Lt, _, rfl, .inl (SqL.of ht), d, a, ns, _, rfl, D, (by rw [List.length_map]; omega), fun r1 H1 r0 r1' D1 k1 => ?_⟩
    obtain ⟨v1, hv1, hm1⟩ := at_bound (xs := ts.map V.str) r0 r1'
    obtain ⟨tn, htn, rfl⟩ := List.mem_map.mp hm1
    refine ⟨Lt, _, r1, _, rfl, rfl, SqL.of (k1 _ _ ht nT), hv1, ?_⟩
    have hk1 := k1 _ _ hk nK
    refine ⟨_, rfl, _, rfl, _, rfl, Lk, _, rfl, .inl (SqL.of hk1), d, a, ns, _, rfl, D1, (by rw [List.length_map]; omega), fun r2 H2 r0' r2' D2 k2 => ?_⟩
    obtain ⟨v2, hv2, hm2⟩ := at_bound (xs := ks.map V.str) r0' r2'
    obtain ⟨kd, hkd, rfl⟩ := List.mem_map.mp hm2
    refine ⟨Lk, _, r2, _, rfl, rfl, SqL.of (k2 _ _ hk1 nK), hv2, _, _, rfl, ?_⟩
    have k12 := k1.trans k2
    obtain ⟨z, _, hd⟩ := D.ex
    have lr2 := lr.keep k12 hd nR
    obtain ⟨rs2, hLr2, ra2⟩ := id lr2
    refine ⟨_, rfl, _, rfl, _, rfl, _, rfl, Lr, rfl, ⟨_, SqL.of hLr2⟩, fun l hl => ?_⟩
    refine lc_list (xs := rs2.map V.ref) (fun j H' => H' l = some (.lst ((rows.take j).map fun r => V.int r.2.2.1)) ∧ Same H2 H') ?_ ?_ ?_ ?_
    · exact ⟨upd_same, same_new hl⟩
    · rintro j H6 hj ⟨_, s6⟩
      exact SqL.of (s6 _ _ hLr2)
    · rintro j y H6 hy ⟨h6, s6⟩
      obtain ⟨r, hr', rfl⟩ := ref_at hy
      obtain ⟨u, hu, e⟩ := ra2.at_ j r hr'
      refine ⟨rfl, yes_i ⟨_, rfl, r, _, 2, _, rfl, rfl, SqT.of (s6 _ _ e), at_of (j := 2) (by decide) rfl, _, h6, small1000 ?_, ?_, fun b o eb => ?_⟩⟩
      · have := mapt_len (ns := rows) (f := fun r => V.int r.2.2.1) (i := j); omega
      · rw [upd_same, mapt_yes hu]
      · rw [upd_ne (ne_of_none eb hl)]; exact s6 b o eb
    rintro H6 ⟨h6, s6⟩
    rw [List.length_map, ra2.len, List.take_length] at h6
    have em : (rows.map fun r => V.int r.2.2.1) = (rows.map fun r => r.2.2.1).map V.int := by rw [List.map_map]; rfl
    rw [em] at h6
    have nld : l ≠ d := D2.ne hl
    refine ⟨d, a, l, ns, _, rfl, D2.same s6, h6, nld, days_bound good, fun dy H7 dy0 dy1 D7 k7 => ?_⟩
    refine ⟨_, rfl, d, a, ns, 1000000, rfl, D7, by decide, fun wt H8 wt0 wt1 D8 k8 => ⟨(by show 4 ≤ sizeLine; decide), fun p hp => ?_⟩⟩
    have s9 := same_new (o := .tup [V.str tn, V.str kd, V.int dy, V.int wt]) hp
    have k8' : Keep d H H8 := ((k12.trans (.of s6)).trans k7).trans k8
    refine q p (tn, kd, dy, wt) _ ⟨nts tn htn, nks kd hkd, dy0, dy1, wt0, wt1⟩ htn hkd upd_same ?_ (D8.same s9) (k8'.trans (.of s9))
    cases e : H p with
    | none => rfl
    | some o =>
      by_cases hpd : p = d
      · obtain ⟨z', _, hd'⟩ := D8.ex
        rw [hpd, hd'] at hp; cases hp
      · rw [k8' p o e hpd] at hp; cases hp
end
end Ck
set_option Elab.async false
set_option linter.all false
set_option maxRecDepth 100000
set_option maxHeartbeats 4000000
namespace Ck
open PySem L2
section
variable {P : Program} {w : World} {K : PySem.W.Frag} {mg : Str → Option Value} {base : Heap} {t : Ad}
def spTurns (C : Addr) : Sp := fun vs H Q _ => ∃ (x L : Addr) (tn kd : Str) (kn : V) (rows rows' : List CRow), vs = [.ref x, .str tn, .str kd, kn] ∧ CallsAt C H x L rows ∧ Known kn rows rows' ∧ rows.length ≤ 60 ∧ nameOk tn = true ∧ nameOk kd = true ∧
  ∀ L' ps H', LPrs H' L' ps → IsTurns rows' tn kd ps → ps.length ≤ 60 → H L' = none → Same H H' → Q (.ref L') H'
theorem ok_turns (T : Env K mg t) : FnOk P w K mg base CX0 5 t.a_Calls_turns t.fd_Calls_turns ["self", "town", "kind", "known"] (spTurns t.C_Calls) := by
  have G_check_name : FnOk P w K mg base CX0 4 t.a_check_name t.fd_check_name ["text"] spCkName := ok_ckname T
  have G_Calls_worths_by_day : FnOk P w K mg base CX0 4 t.a_Calls_worths_by_day t.fd_Calls_worths_by_day ["self", "town", "kind", "known"] (spByDay t.C_Calls) := ok_byday T
  refine T.f_Calls_turns.okQ sc_Calls_turns (fun vs H Q E h => ?_) (fun cdv A outer s H vs Q E hr h => ?_)
  · obtain ⟨x, L, tn, kd, kn, rows, rows', rfl, _⟩ := h
    rfl
  · obtain ⟨x, L, tn, kd, kn, rows, rows', rfl, c, kk, hl, nt, nk, q⟩ := h
    have hr_check_name := hr
    have hr_Calls_worths_by_day := hr
    have hu := hu_of hr
    refine ⟨_, (q_pss_cons (q_ps_expr (q_pe_call G_check_name hr_check_name (by rfl) T.mg_check_name T.kp_check_name T.b_check_name .nil pass0 (q_pa_cons (q_pv 1) q_pa_nil star_Name)))
      (q_pss_cons (q_ps_expr (q_pe_call G_check_name hr_check_name (by rfl) T.mg_check_name T.kp_check_name T.b_check_name .nil pass0 (q_pa_cons (q_pv 2) q_pa_nil star_Name)))
      (q_pss_cons (q_ps_set (i := 4) sc_Calls_turns.nd rfl (by first | exact Or.inl rfl | exact Or.inr (Or.inl rfl) | exact Or.inr rfl) (q_pe_meth (q_pv 0) T.cl_Calls T.m_Calls_worths_by_day G_Calls_worths_by_day hr_Calls_worths_by_day T.b_Calls_worths_by_day .nil pass0 (q_pa_cons (q_pv 1) (q_pa_cons (q_pv 2) (q_pa_cons (q_pv 3) q_pa_nil star_Name) star_Name) star_Name)))
      (q_pss_cons (q_ps_set (i := 5) sc_Calls_turns.nd rfl (by first | exact Or.inl rfl | exact Or.inr (Or.inl rfl) | exact Or.inr rfl) (q_pe_lst q_pa_nil))
      (q_pss_cons (q_ps_set (i := 6) sc_Calls_turns.nd rfl (by first | exact Or.inl rfl | exact Or.inr (Or.inl rfl) | exact Or.inr rfl) q_pe_int)
      (q_pss_cons (q_ps_for PassesOwn.never rfl (q_pi_list (q_pe_callB (cr_sortedD rfl) (by rfl) T.z_sorted (by decide +kernel) (q_pa_cons (q_pv 4) q_pa_nil star_Name))) (q_pg_name (i := 7) sc_Calls_turns.nd rfl (by first | exact Or.inl rfl | exact Or.inr (Or.inl rfl) | exact Or.inr rfl))
      (q_pss_cons (q_ps_if (q_pt_cmpR op_ne (q_pe_dget hu (q_pv 4) (q_pv 7) (fun _ _ => rfl)) (q_pv 6) (nomark _)) (q_pss_one (q_ps_expr (q_pe_bm PySem.F.plainAttrs_list PySem.F.slot_list_append PySem.F.type_list_append mt_append (q_pv 5) (q_pa_cons (q_pe_tup (q_pa_cons (q_pv 7) (q_pa_cons (q_pe_dget hu (q_pv 4) (q_pv 7) (fun _ _ => rfl)) q_pa_nil star_Subscript) star_Name)) q_pa_nil star_Tuple)))) q_pss_nil)
      (q_pss_one (q_ps_set (i := 6) sc_Calls_turns.nd rfl (by first | exact Or.inl rfl | exact Or.inr (Or.inl rfl) | exact Or.inr rfl) (q_pe_dget hu (q_pv 4) (q_pv 7) (fun _ _ => rfl))))))
      (q_pss_one (q_ps_ret (q_pv 5))))))))), ?_⟩
    refine ⟨_, rfl, tn, rfl, nt, fun H1 s1 => ⟨_, rfl, kd, rfl, nk, fun H2 s2 => ?_⟩⟩
    have s2 := s1.trans s2
    have c2 := c.same s2
    obtain ⟨dx, rs, hx, hL, ra⟩ := id c2
    refine ⟨_, rfl, x, dx, _, rfl, hx, rfl, _, rfl, _, rfl, _, rfl, x, L, tn, kd, kn, rows, rows', rfl, c2, kk, (by omega), fun d kvs H3 h3 D3 n3 s3 => ?_⟩
    have hl' : rows'.length ≤ 60 := by have := kk.len; omega
    have lk := D3.len
    obtain ⟨ds, hks, hds⟩ := D3.keys
    refine ⟨by decide, fun Lt hLt => ?_⟩
    have s4 := same_new (o := .lst []) hLt
    have h4 := s4 _ _ h3
    refine ⟨_, rfl, d, kvs, ds, rfl, h4, hks, by omega, fun ms p hr' hm lms hp => ?_⟩
    have ldk : ds.length = kvs.length := by have := congrArg List.length hks; simpa using this.symm
    have s5 := same_new (o := .lst (ms.map V.int)) hp
    have hp5 := new_at (o := .lst (ms.map V.int)) hp
    have h5 := s5 _ _ h4
    have hLt5 := s5 _ _ (new_at (o := .lst []) hLt)
    have nLd : d ≠ Lt := ne_of_none h3 hLt
    have nLp : Lt ≠ p := ne_of_none (upd_same (H := H3) (a := Lt) (o := .lst [])) hp
    have s35 := s4.trans s5
    have sH : ∀ b o, H b = some o → b ≠ Lt ∧ (upd (upd H3 Lt (.lst [])) p (.lst (ms.map V.int))) b = some o := fun b o e => by
      have e3 := s3 _ _ (s2 b o e)
      exact ⟨ne_of_none e3 hLt, s35 _ _ e3⟩
    generalize upd (upd H3 Lt (.lst [])) p (.lst (ms.map V.int)) = H5 at *
    refine ⟨p, rfl, ⟨_, SqL.of hp5⟩, ?_⟩
    refine for_list (xs := ms.map V.int) (fun i σ H' => ∃ (o7 : Option V), σ = [some (.ref x), some (.str tn), some (.str kd), some kn, some (.ref d), some (.ref Lt), some (.int (tnOf (wdOf rows' tn kd) (ms.take i)).2), o7] ∧ LPrs H' Lt (tnOf (wdOf rows' tn kd) (ms.take i)).1 ∧ Keep Lt H5 H') ?_ ?_ ?_ ?_
    · exact ⟨none, rfl, ⟨[], hLt5, TA.nil _ _⟩, .refl _ _⟩
    · rintro i σ H6 hi ⟨o7, rfl, _, k6⟩
      exact SqL.of (k6 _ _ hp5 nLp.symm)
    · rintro i y σ H6 hy ⟨o7, rfl, ⟨rs6, h6, ra6⟩, k6⟩
      obtain ⟨dy, hdy, rfl⟩ := int_at hy
      have hs : (lastFor rows' tn kd dy).isSome = true := (hds dy).mp ((hm dy).mp (List.mem_of_getElem? hdy))
      have hv := D3.at hs
      have hd6 := k6 _ _ h5 nLd
      have g6 : ∀ H' : Hp, H' d = some (.dK kvs) → DGet H' d (.int dy) (some (.int (wdOf rows' tn kd dy))) := fun H' e => by
        have z := DGet.k (k := Sum.inl dy) e
        rw [hv] at z; exact z
      have et := tnOf_succ (wdOf rows' tn kd) hdy
      have lps := tnOf_len (wdOf rows' tn kd) (ms.take i)
      have ltk := List.length_take_le' i ms
      refine ⟨_, rfl, _, rfl, d, _, rfl, g6 H6 hd6, _, rfl, rfl, _, rfl, ?_⟩
      refine ite2 (fun hc => ?_) (fun hc => ?_)
      · have hc' : wdOf rows' tn kd dy ≠ (tnOf (wdOf rows' tn kd) (ms.take i)).2 := by simpa using hc
        refine ⟨_, rfl, .inl ⟨rfl, _, SqL.of h6⟩, _, rfl, _, rfl, _, rfl, d, _, rfl, g6 H6 hd6, (by show 2 ≤ sizeLine; decide), fun p7 hp7 => ?_⟩
        have s7 := same_new (o := .tup [V.int dy, V.int (wdOf rows' tn kd dy)]) hp7
        have h7 := s7 _ _ h6
        refine ⟨Lt, _, _, rfl, rfl, h7, small1000 (by rw [List.length_map, ra6.len]; omega), ?_⟩
        have l8 := LPrs.push (u := (dy, wdOf rows' tn kd dy)) h7 (ra6.mono (.same s7)) (new_at hp7)
        have k8 : Keep Lt H6 (upd (upd H6 p7 (.tup [V.int dy, V.int (wdOf rows' tn kd dy)])) Lt (.lst (rs6.map V.ref ++ [V.ref p7]))) := fun b o e nb => by rw [upd_ne nb]; exact s7 _ _ e
        refine ⟨_, rfl, _, rfl, d, _, rfl, g6 _ (k8 _ _ hd6 nLd), ?_⟩
        rw [et]
        unfold stp
        rw [if_pos hc']
        exact ⟨_, rfl, l8, k6.trans k8⟩
      · have hc' : wdOf rows' tn kd dy = (tnOf (wdOf rows' tn kd) (ms.take i)).2 := by simpa using hc
        refine ⟨_, rfl, _, rfl, d, _, rfl, g6 H6 hd6, ?_⟩
        rw [et]
        unfold stp
        rw [if_neg (fun z => z hc')]
        exact ⟨_, rfl, ⟨rs6, h6, ra6⟩, k6⟩
    · rintro σ H6 ⟨o7, rfl, h6, k6⟩
      rw [List.length_map, List.take_length] at h6
      refine ⟨_, rfl, q Lt _ H6 h6 ⟨ms, hr', fun z => (hm z).trans (hds z), rfl⟩ (by have := tnOf_len (wdOf rows' tn kd) ms; omega) ?_ fun b o e => ?_⟩
      · cases e : H Lt with
        | none => rfl
        | some o => exact absurd rfl (sH Lt o e).1
      · obtain ⟨n, e5⟩ := sH b o e
        exact k6 b o e5 n
end
end Ck
set_option Elab.async false
set_option linter.all false
set_option maxRecDepth 100000
set_option maxHeartbeats 4000000
namespace Ck
open PySem L2
section
variable {P : Program} {w : World} {K : PySem.W.Frag} {mg : Str → Option Value} {base : Heap} {t : Ad}
abbrev isTK (t k : Str) (r : CRow) : Bool := decide (r.1 = t ∧ r.2.1 = k)
theorem mem_daysTK {rows : List CRow} {t k : Str} {x : Int} : x ∈ (rows.filter (isTK t k)).map (fun r => r.2.2.1) ↔ (lastFor rows t k x).isSome = true := by
  rw [lastFor_some, List.mem_map]
  constructor
  · rintro ⟨r, hr, rfl⟩
    obtain ⟨h1, h2⟩ := List.mem_filter.mp hr
    have h2 := of_decide_eq_true h2
    exact ⟨r, h1, h2.1, h2.2, rfl⟩
  · rintro ⟨r, hr, h1, h2, rfl⟩
    exact ⟨r, List.mem_filter.mpr ⟨hr, decide_eq_true ⟨h1, h2⟩⟩, rfl⟩
def spLTurns : Sp := fun vs H Q _ => ∃ (L : Addr) (tn kd : Str) (rows : List CRow), vs = [.ref L, .str tn, .str kd] ∧ LRows H L rows ∧ rows.length ≤ 60 ∧ (∀ r ∈ rows, GoodRow r) ∧ nameOk tn = true ∧ nameOk kd = true ∧
  ∀ L' ps H', LPrs H' L' ps → IsTurns rows tn kd ps → ps.length ≤ 60 → H L' = none → Same H H' → Q (.ref L') H'
theorem ok_lturns (T : Env K mg t) : FnOk P w K mg base CX0 2 t.a_l_turns t.fd_l_turns ["_law_rows", "_law_town", "_law_kind"] spLTurns := by
  have G_l_due : FnOk P w K mg base CX0 1 t.a_l_due t.fd_l_due ["_law_rows", "_law_town", "_law_kind", "_law_day_here"] spDue := ok_due T
  refine T.f_l_turns.okQ sc_l_turns (fun vs H Q E h => ?_) (fun cdv A outer s H vs Q E hr h => ?_)
  · obtain ⟨L, tn, kd, rows, rfl, _⟩ := h
    rfl
  · obtain ⟨L, tn, kd, rows, rfl, c, hl, good, nt, nk, q⟩ := h
    have hr_l_due := hr
    refine ⟨_, (q_pss_cons (q_ps_par (i := 3) (j := 4) (by rfl) sc_l_turns.nd rfl rfl (by decide) rfl rfl (q_pa_cons (q_pe_lst q_pa_nil) (q_pa_cons q_pe_int q_pa_nil star_Constant) star_List) (by rfl))
      (q_pss_cons (q_ps_for PassesOwn.never rfl (q_pi_list (q_pe_sortset rfl (by rfl) T.z_set (by rfl) T.z_sorted (q_pa_cons (q_pe_lc (own := [("_law_row_here", 7)]) (g := gName 7) (by rfl) sc_l_turns.nd (q_pi_list (q_pv 0)) (blkOk_by (own := [("_law_row_here", 7)]) (N := ["_law_rows", "_law_town", "_law_kind", "_law_found", "_law_ahead", "_law_day_here", "_law_due_here", "_law_row_here"]) (sc := defScope s_l_turns) (by decide +kernel)) (fun _ _ _ _ _ => (q_pg_name (i := 7) sc_l_turns.nd rfl (by first | exact Or.inl rfl | exact Or.inr (Or.inl rfl) | exact Or.inr rfl))) (fun _ _ _ _ _ => (q_pts_one (q_pt_cmpR (op_eqDK (K := K) rfl hr.units) (q_pe_slice (sl_tupK (K := K) rfl) (q_pv 7) q_po_none (q_po_some q_pe_int)) (q_pe_tup (q_pa_cons (q_pv 1) (q_pa_cons (q_pv 2) q_pa_nil star_Name) star_Name)) (nomark _)))) (fun _ _ _ _ _ => (q_pe_ix (ix_tupK (K := K) rfl) (q_pv 7) q_pe_int (fun _ _ => rfl)))) q_pa_nil star_ListComp))) (q_pg_name (i := 5) sc_l_turns.nd rfl (by first | exact Or.inl rfl | exact Or.inr (Or.inl rfl) | exact Or.inr rfl))
      (q_pss_cons (q_ps_set (i := 6) sc_l_turns.nd rfl (by first | exact Or.inl rfl | exact Or.inr (Or.inl rfl) | exact Or.inr rfl) (q_pe_call G_l_due hr_l_due (by rfl) T.mg_l_due T.kp_l_due T.b_l_due .nil pass0 (q_pa_cons (q_pv 0) (q_pa_cons (q_pv 1) (q_pa_cons (q_pv 2) (q_pa_cons (q_pv 5) q_pa_nil star_Name) star_Name) star_Name) star_Name)))
      (q_pss_cons (q_ps_if (q_pt_cmpR op_ne (q_pv 6) (q_pv 4) (nomark _)) (q_pss_one (q_ps_expr (q_pe_bm PySem.F.plainAttrs_list PySem.F.slot_list_append PySem.F.type_list_append mt_append (q_pv 3) (q_pa_cons (q_pe_tup (q_pa_cons (q_pv 5) (q_pa_cons (q_pv 6) q_pa_nil star_Name) star_Name)) q_pa_nil star_Tuple)))) q_pss_nil)
      (q_pss_one (q_ps_set (i := 4) sc_l_turns.nd rfl (by first | exact Or.inl rfl | exact Or.inr (Or.inl rfl) | exact Or.inr rfl) (q_pv 6))))))
      (q_pss_one (q_ps_ret (q_pv 3))))), ?_⟩
    refine ⟨by decide, fun Lt hLt => ⟨_, _, rfl, ?_⟩⟩
    have s1 := same_new (o := .lst []) hLt
    obtain ⟨rs, hL, ra⟩ := c.same s1
    have hLt1 := new_at (o := .lst []) hLt
    refine ⟨_, rfl, L, rfl, ⟨_, SqL.of hL⟩, fun l hl2 => ?_⟩
    refine lc_list (xs := rs.map V.ref) (fun i H' => H' l = some (.lst (((rows.take i).filter (isTK tn kd)).map fun r => V.int r.2.2.1)) ∧ Same (upd H Lt (.lst [])) H') ?_ ?_ ?_ ?_
    · exact ⟨upd_same, same_new hl2⟩
    · rintro i H2 hi ⟨_, s2⟩
      exact SqL.of (s2 _ _ hL)
    · rintro i y H2 hy ⟨h2, s2⟩
      obtain ⟨r, hr', rfl⟩ := ref_at hy
      obtain ⟨u, hu, e⟩ := ra.at_ i r hr'
      have gu := good u (List.mem_of_getElem? hu)
      have e2 := s2 _ _ e
      refine ⟨rfl, ?_⟩
      refine ⟨_, rfl, 2, rfl, r, _, rfl, SqT.of e2, (fun z => absurd z.2 (by show ¬ (2 = 4); decide)), fun p2 hp2 => ?_⟩
      have s3 := same_new (o := .tup (cutV (rowVs u) none (some 2))) hp2
      refine ⟨_, rfl, _, rfl, (by show 2 ≤ sizeLine; decide), fun p3 hp3 => ?_⟩
      have s4 := same_new (o := .tup [V.str tn, V.str kd]) hp3
      have hp2' := s4 _ _ (new_at (o := .tup (cutV (rowVs u) none (some 2))) hp2)
      rw [cut_row2] at hp2'
      refine ⟨_, _, dp_pair hp2', dp_pair upd_same, shaped_pair (nameOk.okt gu.1) (nameOk.okt gu.2.1), shaped_pair (nameOk.okt nt) (nameOk.okt nk), _, rfl, ?_⟩
      rw [eqv_pair]
      have s24 := (s2.trans s3).trans s4
      have h4 := s4 _ _ (s3 _ _ h2)
      have e4 := s4 _ _ (s3 _ _ e2)
      clear hp2'
      generalize (upd (upd H2 p2 (.tup (cutV (rowVs u) none (some 2)))) p3 (.tup [V.str tn, V.str kd])) = H4 at s24 h4 e4 ⊢
      refine ite2 (fun hc => ?_) (fun hc => ?_)
      · refine ⟨_, rfl, r, _, 2, _, rfl, rfl, SqT.of e4, at_of (j := 2) (by decide) rfl, _, h4, small1000 ?_, ?_, fun b o eb => ?_⟩
        · have := filtm_len (ns := rows) (p := isTK tn kd) (f := fun r => V.int r.2.2.1) (i := i); omega
        · rw [upd_same, filtm_yes hu hc]
        · rw [upd_ne (ne_of_none eb hl2)]; exact s24 b o eb
      · refine ⟨?_, s24⟩
        rw [h4, filtm_no hu hc]
    rintro H2 ⟨h2, s2⟩
    rw [List.length_map, ra.len, List.take_length] at h2
    have em : ((rows.filter (isTK tn kd)).map fun r => V.int r.2.2.1) = ((rows.filter (isTK tn kd)).map fun r => r.2.2.1).map V.int := by rw [List.map_map]; rfl
    rw [em] at h2
    have lf : ((rows.filter (isTK tn kd)).map fun r => r.2.2.1).length ≤ 60 := by
      rw [List.length_map]
      have := List.length_filter_le (isTK tn kd) rows
      omega
    refine ⟨l, _, rfl, SqL.of h2, by omega, fun ms p hr' hm lms hp => ?_⟩
    have hm' : ∀ x, x ∈ ms ↔ (lastFor rows tn kd x).isSome = true := fun x => (hm x).trans mem_daysTK
    have s5 := same_new (o := .lst (ms.map V.int)) hp
    have hp5 := new_at (o := .lst (ms.map V.int)) hp
    have hLt5 := s5 _ _ (s2 _ _ hLt1)
    have nLp : Lt ≠ p := ne_of_none (s2 _ _ hLt1) hp
    have sH : ∀ b o, H b = some o → b ≠ Lt ∧ (upd H2 p (.lst (ms.map V.int))) b = some o := fun b o e => ⟨ne_of_none e hLt, s5 _ _ (s2 _ _ (s1 b o e))⟩
    have c5 : LRows (upd H2 p (.lst (ms.map V.int))) L rows := ⟨rs, s5 _ _ (s2 _ _ hL), (ra.mono (.same s2)).mono (.same s5)⟩
    have nL : L ≠ Lt := by
      obtain ⟨_, h0, _⟩ := c
      exact ne_of_none h0 hLt
    generalize upd H2 p (.lst (ms.map V.int)) = H5 at *
    refine ⟨p, rfl, ⟨_, SqL.of hp5⟩, ?_⟩
    refine for_list (xs := ms.map V.int) (fun i σ H' => ∃ (o5 o6 o7 : Option V), σ = [some (.ref L), some (.str tn), some (.str kd), some (.ref Lt), some (.int (tnOf (wdOf rows tn kd) (ms.take i)).2), o5, o6, o7] ∧ LPrs H' Lt (tnOf (wdOf rows tn kd) (ms.take i)).1 ∧ Keep Lt H5 H') ?_ ?_ ?_ ?_
    · exact ⟨_, _, _, rfl, ⟨[], hLt5, TA.nil _ _⟩, .refl _ _⟩
    · rintro i σ H6 hi ⟨o5, o6, o7, rfl, _, k6⟩
      exact SqL.of (k6 _ _ hp5 nLp.symm)
    · rintro i y σ H6 hy ⟨o5, o6, o7, rfl, l6, k6⟩
      obtain ⟨dy, hdy, rfl⟩ := int_at hy
      have hs : (lastFor rows tn kd dy).isSome = true := (hm' dy).mp (List.mem_of_getElem? hdy)
      have et := tnOf_succ (wdOf rows tn kd) hdy
      have lps := tnOf_len (wdOf rows tn kd) (ms.take i)
      have ltk := List.length_take_le' i ms
      have c6 : LRows H6 L rows := c5.keep k6 hLt5 nL
      refine ⟨_, rfl, _, rfl, _, rfl, _, rfl, L, tn, kd, dy, rows, rfl, c6, (by omega), good, nt, nk, fun r7 H7 iw s7 => ?_⟩
      have e7 := worth_told iw hs
      subst e7
      obtain ⟨rs7, h7, ra7⟩ := l6.same s7
      have k7 : Keep Lt H5 H7 := k6.trans (.of s7)
      refine ⟨_, rfl, _, rfl, rfl, _, rfl, ?_⟩
      refine ite2 (fun hc => ?_) (fun hc => ?_)
      · have hc' : wdOf rows tn kd dy ≠ (tnOf (wdOf rows tn kd) (ms.take i)).2 := by simpa using hc
        refine ⟨_, rfl, .inl ⟨rfl, _, SqL.of h7⟩, _, rfl, _, rfl, (by show 2 ≤ sizeLine; decide), fun p8 hp8 => ?_⟩
        have s8 := same_new (o := .tup [V.int dy, V.int (wdOf rows tn kd dy)]) hp8
        have h8 := s8 _ _ h7
        refine ⟨Lt, _, _, rfl, rfl, h8, small1000 (by rw [List.length_map, ra7.len]; omega), ?_⟩
        have l9 := LPrs.push (u := (dy, wdOf rows tn kd dy)) h8 (ra7.mono (.same s8)) (new_at hp8)
        have k9 : Keep Lt H7 (upd (upd H7 p8 (.tup [V.int dy, V.int (wdOf rows tn kd dy)])) Lt (.lst (rs7.map V.ref ++ [V.ref p8]))) := fun b o e nb => by rw [upd_ne nb]; exact s8 _ _ e
        refine ⟨_, rfl, ?_⟩
        rw [et]
        unfold stp
        rw [if_pos hc']
        exact ⟨_, _, _, rfl, l9, k7.trans k9⟩
      · have hc' : wdOf rows tn kd dy = (tnOf (wdOf rows tn kd) (ms.take i)).2 := by simpa using hc
        refine ⟨_, rfl, ?_⟩
        rw [et]
        unfold stp
        rw [if_neg (fun z => z hc')]
        exact ⟨_, _, _, rfl, ⟨rs7, h7, ra7⟩, k7⟩
    · rintro σ H6 ⟨o5, o6, o7, rfl, h6, k6⟩
      rw [List.length_map, List.take_length] at h6
      refine ⟨_, rfl, q Lt _ H6 h6 ⟨ms, hr', hm', rfl⟩ (by have := tnOf_len (wdOf rows tn kd) ms; omega) ?_ fun b o e => ?_⟩
      · exact hLt
      · obtain ⟨n, e5⟩ := sH b o e
        exact k6 b o e5 n
end
end Ck
set_option Elab.async false
set_option linter.all false
set_option maxRecDepth 100000
set_option maxHeartbeats 4000000
namespace Ck
open PySem L2
section
variable {P : Program} {w : World} {K : PySem.W.Frag} {mg : Str → Option Value} {base : Heap} {t : Ad}
def spCkNameX (CN : Addr) : Sp := fun vs H Q E => ∃ x : Str, vs = [.str x] ∧ x.length ≤ 1000 ∧ ((nameOk x = true ∧ ∀ H', Same H H' → Q .non H') ∨ (nameOk x = false ∧ ∀ H', Same H H' → E (.ref CN) none H'))
theorem ok_check_nameX (T : Env K mg t) : FnOk P w K mg base (CX1 P w) 4 t.a_check_name t.fd_check_name ["text"] (spCkNameX t.C_NoName) := by
  have G_is_name : FnOk P w K mg base CX0 3 t.a_is_name t.fd_is_name ["text"] (spTx nameOk) := ok_name T
  refine T.f_check_name.okX sc_check_name (fun vs H Q E h => ?_) (fun cdv A outer s H vs Q E hr h O => ?_)
  · obtain ⟨x, rfl, _⟩ := h
    rfl
  · obtain ⟨x, rfl, lx, h⟩ := h
    have hr_is_name := hr
    refine ⟨_, (q_pss_one (q_ps_if (q_pt_not (q_pt_val (q_pe_call G_is_name hr_is_name (by rfl) T.mg_is_name T.kp_is_name T.b_is_name .nil pass0 (q_pa_cons (q_pv 0) q_pa_nil star_Name)))) (q_pss_one (q_ps_raise O T.ex_NoName.toExcCls (by rfl) T.mg_NoName (q_pa_cons q_pe_str q_pa_nil star_Constant))) q_pss_nil)), ?_⟩
    refine ⟨_, rfl, x, rfl, lx, fun H1 s1 => ?_⟩
    rcases h with ⟨nx, q⟩ | ⟨nx, e⟩
    · exact ⟨_, rfl, iteN nx (q H1 s1)⟩
    · rw [nx]
      exact ⟨_, rfl, iteT ⟨(by show 1 ≤ sizeLine; decide), e H1 s1⟩⟩
def BadN (hi : Int) (v : V) : Prop := (∃ n : Int, v = .int n ∧ ¬ (0 ≤ n ∧ n ≤ hi)) ∨ ∃ b : Bool, v = .bl b
def spCkToX (hi : Int) (CN : Addr) : Sp := fun vs H Q E => ∃ v : V, vs = [v] ∧ ((∃ n : Int, v = .int n ∧ 0 ≤ n ∧ n ≤ hi ∧ Q .non H) ∨ (BadN hi v ∧ E (.ref CN) none H))
theorem ok_check_dayX (T : Env K mg t) : FnOk P w K mg base (CX1 P w) 4 t.a_check_day t.fd_check_day ["number"] (spCkToX 9999 t.C_NoDay) := by
  have G_is_day : FnOk P w K mg base CX0 3 t.a_is_day t.fd_is_day ["number"] (spTo 9999) := ok_day T
  refine T.f_check_day.okX sc_check_day (fun vs H Q E h => ?_) (fun cdv A outer s H vs Q E hr h O => ?_)
  · obtain ⟨n, rfl, _⟩ := h
    rfl
  · obtain ⟨v, rfl, h⟩ := h
    have hr_is_day := hr
    refine ⟨_, (q_pss_one (q_ps_if (q_pt_not (q_pt_val (q_pe_call G_is_day hr_is_day (by rfl) T.mg_is_day T.kp_is_day T.b_is_day .nil pass0 (q_pa_cons (q_pv 0) q_pa_nil star_Name)))) (q_pss_one (q_ps_raise O T.ex_NoDay.toExcCls (by rfl) T.mg_NoDay (q_pa_cons q_pe_str q_pa_nil star_Constant))) q_pss_nil)), ?_⟩
    rcases h with ⟨n, rfl, n0, n1, q⟩ | ⟨bad, e⟩
    · refine ⟨_, rfl, _, rfl, .inl ⟨n, rfl, ?_⟩⟩
      rw [decide_eq_true n0, decide_eq_true n1]
      exact ⟨_, rfl, iteN rfl q⟩
    · rcases bad with ⟨n, rfl, hn⟩ | ⟨b, rfl⟩
      · refine ⟨_, rfl, _, rfl, .inl ⟨n, rfl, ?_⟩⟩
        have eb : (decide (0 ≤ n) && decide (n ≤ 9999)) = false := by
          rw [Bool.eq_false_iff]
          intro z
          rw [Bool.and_eq_true, decide_eq_true_eq, decide_eq_true_eq] at z
          exact hn z
        rw [eb]
        exact ⟨_, rfl, iteT ⟨(by show 1 ≤ sizeLine; decide), e⟩⟩
      · exact ⟨_, rfl, _, rfl, .inr ⟨b, rfl, _, rfl, iteT ⟨(by show 1 ≤ sizeLine; decide), e⟩⟩⟩
theorem BadN.dec {hi : Int} {n : Int} (hn : ¬ (0 ≤ n ∧ n ≤ hi)) : (decide (0 ≤ n) && decide (n ≤ hi)) = false := by
  rw [Bool.eq_false_iff]
  intro z
  rw [Bool.and_eq_true, decide_eq_true_eq, decide_eq_true_eq] at z
  exact hn z
def spTellingsR (t : Ad) : Sp := fun vs H Q E => ∃ (x L : Addr) (kn : V) (rows : List CRow), vs = [.ref x, kn] ∧ CallsAt t.C_Calls H x L rows ∧ BadN rows.length kn ∧ ∀ H', Same H H' → E (.ref t.C_NoBook) none H'
theorem ok_tellingsR (T : Env K mg t) : FnOk P w K mg base (CX1 P w) 3 t.a_Calls_tellings t.fd_Calls_tellings ["self", "known"] (spTellingsR t) := by
  have G_is_within : FnOk P w K mg base CX0 2 t.a_is_within t.fd_is_within ["number", "least", "most"] spWithin := ok_within T
  refine T.f_Calls_tellings.okX sc_Calls_tellings (fun vs H Q E h => ?_) (fun cdv A outer s H vs Q E hr h O => ?_)
  · obtain ⟨x, L, kn, rows, rfl, _⟩ := h
    rfl
  · obtain ⟨x, L, kn, rows, rfl, c, bad, e⟩ := h
    have hr_is_within := hr
    refine ⟨_, (q_pss_cons (q_ps_if (q_pt_cmpR op_isN (q_pv 1) q_pe_non (nomark _)) (q_pss_one (q_ps_ret (q_pe_callTy call_list_of (by rfl) T.z_list (by decide +kernel) (q_pa_cons (q_pe_fld (q_pv 0) rfl) q_pa_nil star_Attribute)))) q_pss_nil)
      (q_pss_cons (q_ps_if (q_pt_not (q_pt_val (q_pe_call G_is_within hr_is_within (by rfl) T.mg_is_within T.kp_is_within T.b_is_within .nil pass0 (q_pa_cons (q_pv 1) (q_pa_cons q_pe_int (q_pa_cons (q_pe_callB call_len_seq (by rfl) T.z_len PySem.boot_len (q_pa_cons (q_pe_fld (q_pv 0) rfl) q_pa_nil star_Attribute)) q_pa_nil star_Call) star_Constant) star_Name)))) (q_pss_one (q_ps_raise O T.ex_NoBook.toExcCls (by rfl) T.mg_NoBook (q_pa_cons q_pe_str q_pa_nil star_Constant))) q_pss_nil)
      (q_pss_one (q_ps_ret (q_pe_slice sl_list (q_pe_fld (q_pv 0) rfl) q_po_none (q_po_some (q_pv 1))))))), ?_⟩
    obtain ⟨dx, rs, hx, hL, ra⟩ := id c
    have le : (((rs.map V.ref).length : Nat) : Int) = (rows.length : Int) := by rw [List.length_map, ra.len]
    rcases bad with ⟨m, rfl, hm⟩ | ⟨b, rfl⟩
    · refine ⟨_, rfl, rfl, _, rfl, iteF ?_⟩
      refine ⟨_, rfl, _, rfl, x, _, dx, _, _, rfl, hx, T.cl_Calls, T.no_Calls_rows, rfl, L, _, rfl, .inl (SqL.of hL), .int m, 0, _, rfl, .inl ⟨m, rfl, ?_⟩⟩
      rw [le, BadN.dec hm]
      exact ⟨_, rfl, iteT ⟨(by show 1 ≤ sizeLine; decide), e _ (Same.refl _)⟩⟩
    · refine ⟨_, rfl, rfl, _, rfl, iteF ?_⟩
      refine ⟨_, rfl, _, rfl, x, _, dx, _, _, rfl, hx, T.cl_Calls, T.no_Calls_rows, rfl, L, _, rfl, .inl (SqL.of hL), .bl b, 0, _, rfl, .inr ⟨b, rfl, ?_⟩⟩
      exact ⟨_, rfl, iteT ⟨(by show 1 ≤ sizeLine; decide), e _ (Same.refl _)⟩⟩
def spByDayR (t : Ad) : Sp := fun vs H Q E => ∃ (x L : Addr) (v1 v2 kn : V) (rows : List CRow), vs = [.ref x, v1, v2, kn] ∧ CallsAt t.C_Calls H x L rows ∧ BadN rows.length kn ∧ ∀ H', Same H H' → E (.ref t.C_NoBook) none H'
theorem ok_bydayR (T : Env K mg t) : FnOk P w K mg base (CX1 P w) 4 t.a_Calls_worths_by_day t.fd_Calls_worths_by_day ["self", "town", "kind", "known"] (spByDayR t) := by
  have G_Calls_tellings : FnOk P w K mg base (CX1 P w) 3 t.a_Calls_tellings t.fd_Calls_tellings ["self", "known"] (spTellingsR t) := ok_tellingsR T
  refine T.f_Calls_worths_by_day.okX sc_Calls_worths_by_day (fun vs H Q E h => ?_) (fun cdv A outer s H vs Q E hr h O => ?_)
  · obtain ⟨x, L, v1, v2, kn, rows, rfl, _⟩ := h
    rfl
  · obtain ⟨x, L, v1, v2, kn, rows, rfl, c, bad, e⟩ := h
    have hr_Calls_tellings := hr
    have hu := hu_of hr
    refine ⟨_, (q_pss_cons (q_ps_set (i := 4) sc_Calls_worths_by_day.nd rfl (by first | exact Or.inl rfl | exact Or.inr (Or.inl rfl) | exact Or.inr rfl) q_pe_dnewK)
      (q_pss_cons (q_ps_for PassesOwn.leaving rfl (q_pi_list (q_pe_meth (q_pv 0) T.cl_Calls T.m_Calls_tellings G_Calls_tellings hr_Calls_tellings T.b_Calls_tellings .nil (passX O (fun _ _ _ z => z)) (q_pa_cons (q_pv 3) q_pa_nil star_Name))) (q_pg_tup (by rfl) (q_pgs_cons (q_pg_name (i := 5) sc_Calls_worths_by_day.nd rfl (by first | exact Or.inl rfl | exact Or.inr (Or.inl rfl) | exact Or.inr rfl)) (q_pgs_cons (q_pg_name (i := 6) sc_Calls_worths_by_day.nd rfl (by first | exact Or.inl rfl | exact Or.inr (Or.inl rfl) | exact Or.inr rfl)) (q_pgs_cons (q_pg_name (i := 7) sc_Calls_worths_by_day.nd rfl (by first | exact Or.inl rfl | exact Or.inr (Or.inl rfl) | exact Or.inr rfl)) (q_pgs_cons (q_pg_name (i := 8) sc_Calls_worths_by_day.nd rfl (by first | exact Or.inl rfl | exact Or.inr (Or.inl rfl) | exact Or.inr rfl)) q_pgs_nil)))))
      (q_pss_one (q_ps_if (QW.pt (q_pw_and (q_pt_cmpR op_eq (q_pv 5) (q_pv 1) (nomark _)) (q_pw_and1 (q_pt_cmpR op_eq (q_pv 6) (q_pv 2) (nomark _))))) (q_pss_one (q_ps_dput hu (q_pv 4) (q_pv 7) (q_pv 8) rfl)) q_pss_nil)))
      (q_pss_one (q_ps_ret (q_pv 4))))), ?_⟩
    intro D hD
    have s1 := same_new (o := .dK []) hD
    obtain ⟨dx, rs, hx, hL, ra⟩ := id (c.same s1)
    exact ⟨_, rfl, x, dx, _, rfl, hx, rfl, _, rfl, x, L, kn, rows, rfl, c.same s1, bad, fun H2 s2 => e H2 (s1.trans s2)⟩
def FirstBadQ (t : Ad) (tn kd : Str) (kn : V) (m : Nat) (C : Addr) : Prop := (nameOk tn = false ∧ C = t.C_NoName) ∨ (nameOk tn = true ∧ nameOk kd = false ∧ C = t.C_NoName) ∨ (nameOk tn = true ∧ nameOk kd = true ∧ BadN m kn ∧ C = t.C_NoBook)
def FirstBadW (t : Ad) (tn kd : Str) (dv kn : V) (m : Nat) (C : Addr) : Prop := (nameOk tn = false ∧ C = t.C_NoName) ∨ (nameOk tn = true ∧ nameOk kd = false ∧ C = t.C_NoName) ∨ (nameOk tn = true ∧ nameOk kd = true ∧ BadN 9999 dv ∧ C = t.C_NoDay) ∨ (nameOk tn = true ∧ nameOk kd = true ∧ (∃ d : Int, dv = .int d ∧ 0 ≤ d ∧ d ≤ 9999) ∧ BadN m kn ∧ C = t.C_NoBook)
def spTurnsR (t : Ad) : Sp := fun vs H Q E => ∃ (x L : Addr) (tn kd : Str) (kn : V) (rows : List CRow) (C : Addr), vs = [.ref x, .str tn, .str kd, kn] ∧ CallsAt t.C_Calls H x L rows ∧ tn.length ≤ 1000 ∧ kd.length ≤ 1000 ∧ FirstBadQ t tn kd kn rows.length C ∧ ∀ H', Same H H' → E (.ref C) none H'
theorem ok_turnsR (T : Env K mg t) : FnOk P w K mg base (CX1 P w) 5 t.a_Calls_turns t.fd_Calls_turns ["self", "town", "kind", "known"] (spTurnsR t) := by
  have G_check_name : FnOk P w K mg base (CX1 P w) 4 t.a_check_name t.fd_check_name ["text"] (spCkNameX t.C_NoName) := ok_check_nameX T
  have G_Calls_worths_by_day : FnOk P w K mg base (CX1 P w) 4 t.a_Calls_worths_by_day t.fd_Calls_worths_by_day ["self", "town", "kind", "known"] (spByDayR t) := ok_bydayR T
  refine T.f_Calls_turns.okX sc_Calls_turns (fun vs H Q E h => ?_) (fun cdv A outer s H vs Q E hr h O => ?_)
  · obtain ⟨x, L, tn, kd, kn, rows, C, rfl, _⟩ := h
    rfl
  · obtain ⟨x, L, tn, kd, kn, rows, C, rfl, c, lt, lk, fb, e⟩ := h
    have hr_check_name := hr
    have hr_Calls_worths_by_day := hr
    have hu := hu_of hr
    refine ⟨_, (q_pss_cons (q_ps_expr (q_pe_call G_check_name hr_check_name (by rfl) T.mg_check_name T.kp_check_name T.b_check_name .nil (passX O (fun _ _ _ z => z)) (q_pa_cons (q_pv 1) q_pa_nil star_Name)))
      (q_pss_cons (q_ps_expr (q_pe_call G_check_name hr_check_name (by rfl) T.mg_check_name T.kp_check_name T.b_check_name .nil (passX O (fun _ _ _ z => z)) (q_pa_cons (q_pv 2) q_pa_nil star_Name)))
      (q_pss_cons (q_ps_set (i := 4) sc_Calls_turns.nd rfl (by first | exact Or.inl rfl | exact Or.inr (Or.inl rfl) | exact Or.inr rfl) (q_pe_meth (q_pv 0) T.cl_Calls T.m_Calls_worths_by_day G_Calls_worths_by_day hr_Calls_worths_by_day T.b_Calls_worths_by_day .nil (passX O (fun _ _ _ z => z)) (q_pa_cons (q_pv 1) (q_pa_cons (q_pv 2) (q_pa_cons (q_pv 3) q_pa_nil star_Name) star_Name) star_Name)))
      (q_pss_cons (q_ps_set (i := 5) sc_Calls_turns.nd rfl (by first | exact Or.inl rfl | exact Or.inr (Or.inl rfl) | exact Or.inr rfl) (q_pe_lst q_pa_nil))
      (q_pss_cons (q_ps_set (i := 6) sc_Calls_turns.nd rfl (by first | exact Or.inl rfl | exact Or.inr (Or.inl rfl) | exact Or.inr rfl) q_pe_int)
      (q_pss_cons (q_ps_nox (q_ps_for PassesOwn.never rfl (q_pi_list (q_pe_callB (cr_sortedD rfl) (by rfl) T.z_sorted (by decide +kernel) (q_pa_cons (q_pv 4) q_pa_nil star_Name))) (q_pg_name (i := 7) sc_Calls_turns.nd rfl (by first | exact Or.inl rfl | exact Or.inr (Or.inl rfl) | exact Or.inr rfl))
      (q_pss_cons (q_ps_if (q_pt_cmpR op_ne (q_pe_dget hu (q_pv 4) (q_pv 7) (fun _ _ => rfl)) (q_pv 6) (nomark _)) (q_pss_one (q_ps_expr (q_pe_bm PySem.F.plainAttrs_list PySem.F.slot_list_append PySem.F.type_list_append mt_append (q_pv 5) (q_pa_cons (q_pe_tup (q_pa_cons (q_pv 7) (q_pa_cons (q_pe_dget hu (q_pv 4) (q_pv 7) (fun _ _ => rfl)) q_pa_nil star_Subscript) star_Name)) q_pa_nil star_Tuple)))) q_pss_nil)
      (q_pss_one (q_ps_set (i := 6) sc_Calls_turns.nd rfl (by first | exact Or.inl rfl | exact Or.inr (Or.inl rfl) | exact Or.inr rfl) (q_pe_dget hu (q_pv 4) (q_pv 7) (fun _ _ => rfl)))))))
      (q_pss_one (q_ps_ret (q_pv 5))))))))), ?_⟩
    rcases fb with ⟨nt, rfl⟩ | ⟨nt, nk, rfl⟩ | ⟨nt, nk, bk, rfl⟩
    · exact ⟨_, rfl, tn, rfl, lt, .inr ⟨nt, e⟩⟩
    · exact ⟨_, rfl, tn, rfl, lt, .inl ⟨nt, fun H1 s1 => ⟨_, rfl, kd, rfl, lk, .inr ⟨nk, fun H2 s2 => e _ (s1.trans s2)⟩⟩⟩⟩
    · refine ⟨_, rfl, tn, rfl, lt, .inl ⟨nt, fun H1 s1 => ⟨_, rfl, kd, rfl, lk, .inl ⟨nk, fun H2 s2 => ?_⟩⟩⟩⟩
      have s12 := s1.trans s2
      obtain ⟨dx, rs, hx, hL, ra⟩ := id (c.same s12)
      exact ⟨_, rfl, x, dx, _, rfl, hx, rfl, _, rfl, _, rfl, _, rfl, x, L, _, _, kn, rows, rfl, c.same s12, bk, fun H3 s3 => e H3 (s12.trans s3)⟩
def spWorthR (t : Ad) : Sp := fun vs H Q E => ∃ (x L : Addr) (tn kd : Str) (dv kn : V) (rows : List CRow) (C : Addr), vs = [.ref x, .str tn, .str kd, dv, kn] ∧ CallsAt t.C_Calls H x L rows ∧ tn.length ≤ 1000 ∧ kd.length ≤ 1000 ∧ FirstBadW t tn kd dv kn rows.length C ∧ ∀ H', Same H H' → E (.ref C) none H'
theorem ok_worthR (T : Env K mg t) : FnOk P w K mg base (CX1 P w) 5 t.a_Calls_worth t.fd_Calls_worth ["self", "town", "kind", "day", "known"] (spWorthR t) := by
  have G_check_name : FnOk P w K mg base (CX1 P w) 4 t.a_check_name t.fd_check_name ["text"] (spCkNameX t.C_NoName) := ok_check_nameX T
  have G_check_day : FnOk P w K mg base (CX1 P w) 4 t.a_check_day t.fd_check_day ["number"] (spCkToX 9999 t.C_NoDay) := ok_check_dayX T
  have G_Calls_worths_by_day : FnOk P w K mg base (CX1 P w) 4 t.a_Calls_worths_by_day t.fd_Calls_worths_by_day ["self", "town", "kind", "known"] (spByDayR t) := ok_bydayR T
  refine T.f_Calls_worth.okX sc_Calls_worth (fun vs H Q E h => ?_) (fun cdv A outer s H vs Q E hr h O => ?_)
  · obtain ⟨x, L, tn, kd, dv, kn, rows, C, rfl, _⟩ := h
    rfl
  · obtain ⟨x, L, tn, kd, dv, kn, rows, C, rfl, c, lt, lk, fb, e⟩ := h
    have hr_check_name := hr
    have hr_check_day := hr
    have hr_Calls_worths_by_day := hr
    have hu := hu_of hr
    refine ⟨_, (q_pss_cons (q_ps_expr (q_pe_call G_check_name hr_check_name (by rfl) T.mg_check_name T.kp_check_name T.b_check_name .nil (passX O (fun _ _ _ z => z)) (q_pa_cons (q_pv 1) q_pa_nil star_Name)))
      (q_pss_cons (q_ps_expr (q_pe_call G_check_name hr_check_name (by rfl) T.mg_check_name T.kp_check_name T.b_check_name .nil (passX O (fun _ _ _ z => z)) (q_pa_cons (q_pv 2) q_pa_nil star_Name)))
      (q_pss_cons (q_ps_expr (q_pe_call G_check_day hr_check_day (by rfl) T.mg_check_day T.kp_check_day T.b_check_day .nil (passX O (fun _ _ _ z => z)) (q_pa_cons (q_pv 3) q_pa_nil star_Name)))
      (q_pss_cons (q_ps_set (i := 5) sc_Calls_worth.nd rfl (by first | exact Or.inl rfl | exact Or.inr (Or.inl rfl) | exact Or.inr rfl) (q_pe_meth (q_pv 0) T.cl_Calls T.m_Calls_worths_by_day G_Calls_worths_by_day hr_Calls_worths_by_day T.b_Calls_worths_by_day .nil (passX O (fun _ _ _ z => z)) (q_pa_cons (q_pv 1) (q_pa_cons (q_pv 2) (q_pa_cons (q_pv 4) q_pa_nil star_Name) star_Name) star_Name)))
      (q_pss_cons (q_ps_lock (q_ps_setLc (i := 6) (own := [("told", 7)]) (g := gName 7) (by rfl) sc_Calls_worth.nd rfl rfl (sw_true rfl rfl rfl (by decide +kernel)) (q_pi_keys (q_pv 5)) (blkOk_by (own := [("told", 7)]) (N := ["self", "town", "kind", "day", "known", "worths", "told_days", "told"]) (sc := defScope s_Calls_worth) (by decide +kernel)) (fun _ _ _ _ _ => (q_pg_name (i := 7) sc_Calls_worth.nd rfl (by first | exact Or.inl rfl | exact Or.inr (Or.inl rfl) | exact Or.inr rfl))) (fun _ _ _ _ _ => (q_pts_one (q_pt_cmpR op_le (q_pv 7) (q_pv 3) (nomark _)))) (fun _ _ _ _ _ => (q_pv 7))))
      (q_pss_one (q_ps_ret (q_pe_ifExp (q_pt_truth (q_pv 6) (by intro _; rfl)) (q_pe_dget hu (q_pv 5) (q_pe_callB (cr_max rfl) (by rfl) T.z_max (by decide +kernel) (q_pa_cons (q_pv 6) q_pa_nil star_Name)) (fun _ _ => rfl)) q_pe_int)))))))), ?_⟩
    rcases fb with ⟨nt, rfl⟩ | ⟨nt, nk, rfl⟩ | ⟨nt, nk, bd, rfl⟩ | ⟨nt, nk, ⟨d, rfl, d0, d1⟩, bk, rfl⟩
    · exact ⟨_, rfl, tn, rfl, lt, .inr ⟨nt, e⟩⟩
    · exact ⟨_, rfl, tn, rfl, lt, .inl ⟨nt, fun H1 s1 => ⟨_, rfl, kd, rfl, lk, .inr ⟨nk, fun H2 s2 => e _ (s1.trans s2)⟩⟩⟩⟩
    · exact ⟨_, rfl, tn, rfl, lt, .inl ⟨nt, fun H1 s1 => ⟨_, rfl, kd, rfl, lk, .inl ⟨nk, fun H2 s2 => ⟨_, rfl, _, rfl, .inr ⟨bd, e _ (s1.trans s2)⟩⟩⟩⟩⟩⟩
    · refine ⟨_, rfl, tn, rfl, lt, .inl ⟨nt, fun H1 s1 => ⟨_, rfl, kd, rfl, lk, .inl ⟨nk, fun H2 s2 => ⟨_, rfl, _, rfl, .inl ⟨d, rfl, d0, d1, ?_⟩⟩⟩⟩⟩⟩
      have s12 := s1.trans s2
      obtain ⟨dx, rs, hx, hL, ra⟩ := id (c.same s12)
      exact ⟨_, rfl, x, dx, _, rfl, hx, rfl, _, rfl, _, rfl, _, rfl, x, L, _, _, kn, rows, rfl, c.same s12, bk, fun H3 s3 => e H3 (s12.trans s3)⟩
end
end Ck
set_option Elab.async false
set_option linter.all false
set_option maxRecDepth 100000
set_option maxHeartbeats 4000000
namespace Ck
open PySem L2
section
variable {P : Program} {w : World} {K : PySem.W.Frag} {mg : Str → Option Value} {base : Heap} {t : Ad}
def spNamed (C : Addr) (wd : Str) : Sp := fun vs H Q _ => ∃ (ea : Addr), vs = [.ref ea] ∧ H ea = some (.ext (excAt ea C)) ∧ ∀ L H', H' L = some (.lst [V.str wd]) → Same H H' → Q (.ref L) H'
theorem ok_named_NoName (T : Env K mg t) : FnOk P w K mg base CX0 1 t.a_l_named t.fd_l_named ["_law_e"] (spNamed t.C_NoName "name") := by
  refine T.f_l_named.okQ sc_l_named (fun vs H Q E h => ?_) (fun cdv A outer s H vs Q E hr h => ?_)
  · obtain ⟨ea, rfl, _⟩ := h
    rfl
  · obtain ⟨ea, rfl, he, q⟩ := h
    refine ⟨_, (q_pss_cons (q_ps_set (i := 1) sc_l_named.nd rfl (by first | exact Or.inl rfl | exact Or.inr (Or.inl rfl) | exact Or.inr rfl) (q_pe_lst (q_pa_cons (q_pe_tup (q_pa_cons q_pe_str (q_pa_cons (q_pe_callB call_isinstG (by rfl) T.z_isinstance (by decide +kernel) (q_pa_cons (q_pv 0) (q_pa_cons (q_pe_glob (v := .ref _) (by rfl) T.mg_NoName rfl) q_pa_nil star_Name) star_Name)) q_pa_nil star_Call) star_Constant)) (q_pa_cons (q_pe_tup (q_pa_cons q_pe_str (q_pa_cons (q_pe_callB call_isinstG (by rfl) T.z_isinstance (by decide +kernel) (q_pa_cons (q_pv 0) (q_pa_cons (q_pe_glob (v := .ref _) (by rfl) T.mg_NoDay rfl) q_pa_nil star_Name) star_Name)) q_pa_nil star_Call) star_Constant)) (q_pa_cons (q_pe_tup (q_pa_cons q_pe_str (q_pa_cons (q_pe_callB call_isinstG (by rfl) T.z_isinstance (by decide +kernel) (q_pa_cons (q_pv 0) (q_pa_cons (q_pe_glob (v := .ref _) (by rfl) T.mg_NoWorth rfl) q_pa_nil star_Name) star_Name)) q_pa_nil star_Call) star_Constant)) q_pa_nil star_Tuple) star_Tuple) star_Tuple)))
      (q_pss_cons (q_ps_set (i := 1) sc_l_named.nd rfl (by first | exact Or.inl rfl | exact Or.inr (Or.inl rfl) | exact Or.inr rfl) (q_pe_op op_cat (q_pv 1) (q_pe_lst (q_pa_cons (q_pe_tup (q_pa_cons q_pe_str (q_pa_cons (q_pe_callB call_isinstG (by rfl) T.z_isinstance (by decide +kernel) (q_pa_cons (q_pv 0) (q_pa_cons (q_pe_glob (v := .ref _) (by rfl) T.mg_NoBook rfl) q_pa_nil star_Name) star_Name)) q_pa_nil star_Call) star_Constant)) (q_pa_cons (q_pe_tup (q_pa_cons q_pe_str (q_pa_cons (q_pe_callB call_isinstG (by rfl) T.z_isinstance (by decide +kernel) (q_pa_cons (q_pv 0) (q_pa_cons (q_pe_glob (v := .ref _) (by rfl) T.mg_TooMany rfl) q_pa_nil star_Name) star_Name)) q_pa_nil star_Call) star_Constant)) q_pa_nil star_Tuple) star_Tuple))))
      (q_pss_cons (q_ps_set (i := 1) sc_l_named.nd rfl (by first | exact Or.inl rfl | exact Or.inr (Or.inl rfl) | exact Or.inr rfl) (q_pe_op op_cat (q_pv 1) (q_pe_lst (q_pa_cons (q_pe_tup (q_pa_cons q_pe_str (q_pa_cons (q_pe_callB call_isinstG (by rfl) T.z_isinstance (by decide +kernel) (q_pa_cons (q_pv 0) (q_pa_cons (q_pe_glob (v := .ref _) (by rfl) T.mg_NoMany rfl) q_pa_nil star_Name) star_Name)) q_pa_nil star_Call) star_Constant)) (q_pa_cons (q_pe_tup (q_pa_cons q_pe_str (q_pa_cons (q_pe_callB call_isinstG (by rfl) T.z_isinstance (by decide +kernel) (q_pa_cons (q_pv 0) (q_pa_cons (q_pe_glob (v := .ref _) (by rfl) T.mg_NoAmount rfl) q_pa_nil star_Name) star_Name)) q_pa_nil star_Call) star_Constant)) q_pa_nil star_Tuple) star_Tuple))))
      (q_pss_one (q_ps_ret (q_pe_lc (own := [("_law_word_here", 2), ("_law_is_one", 3)]) (g := _) (by rfl) sc_l_named.nd (q_pi_list (q_pv 1)) (blkOk_by (own := [("_law_word_here", 2), ("_law_is_one", 3)]) (N := ["_law_e", "_law_found", "_law_word_here", "_law_is_one"]) (sc := defScope s_l_named) (by decide +kernel)) (fun _ _ _ _ _ => (q_pg_tupK (K := K) 2 rfl (by rfl) (q_pgs_cons (q_pg_name (i := 2) sc_l_named.nd rfl (by first | exact Or.inl rfl | exact Or.inr (Or.inl rfl) | exact Or.inr rfl)) (q_pgs_cons (q_pg_name (i := 3) sc_l_named.nd rfl (by first | exact Or.inl rfl | exact Or.inr (Or.inl rfl) | exact Or.inr rfl)) q_pgs_nil)))) (fun _ _ _ _ _ => (q_pts_one (QW.pt (q_pw_and (q_pt_val (q_pv 3)) (q_pw_and1 (q_pt_val (q_pe_callB (call_isinstGK (K := K) rfl) (by rfl) T.z_isinstance (by decide +kernel) (q_pa_cons (q_pv 0) (q_pa_cons (q_pe_bltn (v := .ty "ValueError") (by rfl) T.z_ValueError (by decide +kernel) rfl) q_pa_nil star_Name) star_Name)))))))) (fun _ _ _ _ _ => (q_pv 2)))))))), ?_⟩
    have ss : Same H H := Same.refl _
    refine ⟨_, rfl, _, _, _, _, _, rfl, rfl, .exc he T.ex_NoName, T.is_NoName_NoName, (by show 2 ≤ sizeLine; decide), fun p0 hp0 => ?_⟩
    have S := same_new (o := .tup [V.str "name", V.bl true]) hp0
    have ss := ss.trans S
    have he := S _ _ he
    have fp0 := new_at (o := .tup [V.str "name", V.bl true]) hp0
    clear S
    generalize (upd H p0 (.tup [V.str "name", V.bl true])) = G0 at ss he fp0
    refine ⟨_, rfl, _, _, _, _, _, rfl, rfl, .exc he T.ex_NoName, T.is_NoName_NoDay, (by show 2 ≤ sizeLine; decide), fun p1 hp1 => ?_⟩
    have S := same_new (o := .tup [V.str "day", V.bl false]) hp1
    have ss := ss.trans S
    have he := S _ _ he
    have fp0 := S _ _ fp0
    have fp1 := new_at (o := .tup [V.str "day", V.bl false]) hp1
    clear S
    generalize (upd G0 p1 (.tup [V.str "day", V.bl false])) = G1 at ss he fp0 fp1
    refine ⟨_, rfl, _, _, _, _, _, rfl, rfl, .exc he T.ex_NoName, T.is_NoName_NoWorth, (by show 2 ≤ sizeLine; decide), fun p2 hp2 => ?_⟩
    have S := same_new (o := .tup [V.str "worth", V.bl false]) hp2
    have ss := ss.trans S
    have he := S _ _ he
    have fp0 := S _ _ fp0
    have fp1 := S _ _ fp1
    have fp2 := new_at (o := .tup [V.str "worth", V.bl false]) hp2
    clear S
    generalize (upd G1 p2 (.tup [V.str "worth", V.bl false])) = G2 at ss he fp0 fp1 fp2
    refine ⟨(by show 3 ≤ sizeLine; decide), fun L0 hL0 => ?_⟩
    have S := same_new (o := .lst [V.ref p0, V.ref p1, V.ref p2]) hL0
    have ss := ss.trans S
    have he := S _ _ he
    have fp0 := S _ _ fp0
    have fp1 := S _ _ fp1
    have fp2 := S _ _ fp2
    have fL0 := new_at (o := .lst [V.ref p0, V.ref p1, V.ref p2]) hL0
    clear S
    generalize (upd G2 L0 (.lst [V.ref p0, V.ref p1, V.ref p2])) = G3 at ss he fp0 fp1 fp2 fL0
    refine ⟨_, rfl, ?_⟩
    refine ⟨_, rfl, _, _, _, _, _, rfl, rfl, .exc he T.ex_NoName, T.is_NoName_NoBook, (by show 2 ≤ sizeLine; decide), fun p3 hp3 => ?_⟩
    have S := same_new (o := .tup [V.str "book", V.bl false]) hp3
    have ss := ss.trans S
    have he := S _ _ he
    have fp0 := S _ _ fp0
    have fp1 := S _ _ fp1
    have fp2 := S _ _ fp2
    have fL0 := S _ _ fL0
    have fp3 := new_at (o := .tup [V.str "book", V.bl false]) hp3
    clear S
    generalize (upd G3 p3 (.tup [V.str "book", V.bl false])) = G4 at ss he fp0 fp1 fp2 fL0 fp3
    refine ⟨_, rfl, _, _, _, _, _, rfl, rfl, .exc he T.ex_NoName, T.is_NoName_TooMany, (by show 2 ≤ sizeLine; decide), fun p4 hp4 => ?_⟩
    have S := same_new (o := .tup [V.str "toomany", V.bl false]) hp4
    have ss := ss.trans S
    have he := S _ _ he
    have fp0 := S _ _ fp0
    have fp1 := S _ _ fp1
    have fp2 := S _ _ fp2
    have fL0 := S _ _ fL0
    have fp3 := S _ _ fp3
    have fp4 := new_at (o := .tup [V.str "toomany", V.bl false]) hp4
    clear S
    generalize (upd G4 p4 (.tup [V.str "toomany", V.bl false])) = G5 at ss he fp0 fp1 fp2 fL0 fp3 fp4
    refine ⟨(by show 2 ≤ sizeLine; decide), fun m1 hm1 => ?_⟩
    have S := same_new (o := .lst [V.ref p3, V.ref p4]) hm1
    have ss := ss.trans S
    have he := S _ _ he
    have fp0 := S _ _ fp0
    have fp1 := S _ _ fp1
    have fp2 := S _ _ fp2
    have fL0 := S _ _ fL0
    have fp3 := S _ _ fp3
    have fp4 := S _ _ fp4
    have fm1 := new_at (o := .lst [V.ref p3, V.ref p4]) hm1
    clear S
    generalize (upd G5 m1 (.lst [V.ref p3, V.ref p4])) = G6 at ss he fp0 fp1 fp2 fL0 fp3 fp4 fm1
    refine ⟨L0, m1, _, _, rfl, rfl, fL0, fm1, (by show 3 + 2 ≤ sizeLine; decide), fun L1 hL1 => ?_⟩
    have S := same_new (o := .lst ([V.ref p0, V.ref p1, V.ref p2] ++ [V.ref p3, V.ref p4])) hL1
    have ss := ss.trans S
    have he := S _ _ he
    have fp0 := S _ _ fp0
    have fp1 := S _ _ fp1
    have fp2 := S _ _ fp2
    have fL0 := S _ _ fL0
    have fp3 := S _ _ fp3
    have fp4 := S _ _ fp4
    have fm1 := S _ _ fm1
    have fL1 := new_at (o := .lst ([V.ref p0, V.ref p1, V.ref p2] ++ [V.ref p3, V.ref p4])) hL1
    clear S
    generalize (upd G6 L1 (.lst ([V.ref p0, V.ref p1, V.ref p2] ++ [V.ref p3, V.ref p4]))) = G7 at ss he fp0 fp1 fp2 fL0 fp3 fp4 fm1 fL1
    refine ⟨_, rfl, ?_⟩
    refine ⟨_, rfl, _, _, _, _, _, rfl, rfl, .exc he T.ex_NoName, T.is_NoName_NoMany, (by show 2 ≤ sizeLine; decide), fun p5 hp5 => ?_⟩
    have S := same_new (o := .tup [V.str "many", V.bl false]) hp5
    have ss := ss.trans S
    have he := S _ _ he
    have fp0 := S _ _ fp0
    have fp1 := S _ _ fp1
    have fp2 := S _ _ fp2
    have fL0 := S _ _ fL0
    have fp3 := S _ _ fp3
    have fp4 := S _ _ fp4
    have fm1 := S _ _ fm1
    have fL1 := S _ _ fL1
    have fp5 := new_at (o := .tup [V.str "many", V.bl false]) hp5
    clear S
    generalize (upd G7 p5 (.tup [V.str "many", V.bl false])) = G8 at ss he fp0 fp1 fp2 fL0 fp3 fp4 fm1 fL1 fp5
    refine ⟨_, rfl, _, _, _, _, _, rfl, rfl, .exc he T.ex_NoName, T.is_NoName_NoAmount, (by show 2 ≤ sizeLine; decide), fun p6 hp6 => ?_⟩
    have S := same_new (o := .tup [V.str "amount", V.bl false]) hp6
    have ss := ss.trans S
    have he := S _ _ he
    have fp0 := S _ _ fp0
    have fp1 := S _ _ fp1
    have fp2 := S _ _ fp2
    have fL0 := S _ _ fL0
    have fp3 := S _ _ fp3
    have fp4 := S _ _ fp4
    have fm1 := S _ _ fm1
    have fL1 := S _ _ fL1
    have fp5 := S _ _ fp5
    have fp6 := new_at (o := .tup [V.str "amount", V.bl false]) hp6
    clear S
    generalize (upd G8 p6 (.tup [V.str "amount", V.bl false])) = G9 at ss he fp0 fp1 fp2 fL0 fp3 fp4 fm1 fL1 fp5 fp6
    refine ⟨(by show 2 ≤ sizeLine; decide), fun m2 hm2 => ?_⟩
    have S := same_new (o := .lst [V.ref p5, V.ref p6]) hm2
    have ss := ss.trans S
    have he := S _ _ he
    have fp0 := S _ _ fp0
    have fp1 := S _ _ fp1
    have fp2 := S _ _ fp2
    have fL0 := S _ _ fL0
    have fp3 := S _ _ fp3
    have fp4 := S _ _ fp4
    have fm1 := S _ _ fm1
    have fL1 := S _ _ fL1
    have fp5 := S _ _ fp5
    have fp6 := S _ _ fp6
    have fm2 := new_at (o := .lst [V.ref p5, V.ref p6]) hm2
    clear S
    generalize (upd G9 m2 (.lst [V.ref p5, V.ref p6])) = G10 at ss he fp0 fp1 fp2 fL0 fp3 fp4 fm1 fL1 fp5 fp6 fm2
    refine ⟨L1, m2, _, _, rfl, rfl, fL1, fm2, (by show 5 + 2 ≤ sizeLine; decide), fun L2 hL2 => ?_⟩
    have S := same_new (o := .lst ([V.ref p0, V.ref p1, V.ref p2] ++ [V.ref p3, V.ref p4] ++ [V.ref p5, V.ref p6])) hL2
    have ss := ss.trans S
    have he := S _ _ he
    have fp0 := S _ _ fp0
    have fp1 := S _ _ fp1
    have fp2 := S _ _ fp2
    have fL0 := S _ _ fL0
    have fp3 := S _ _ fp3
    have fp4 := S _ _ fp4
    have fm1 := S _ _ fm1
    have fL1 := S _ _ fL1
    have fp5 := S _ _ fp5
    have fp6 := S _ _ fp6
    have fm2 := S _ _ fm2
    have fL2 := new_at (o := .lst ([V.ref p0, V.ref p1, V.ref p2] ++ [V.ref p3, V.ref p4] ++ [V.ref p5, V.ref p6])) hL2
    clear S
    generalize (upd G10 L2 (.lst ([V.ref p0, V.ref p1, V.ref p2] ++ [V.ref p3, V.ref p4] ++ [V.ref p5, V.ref p6]))) = G11 at ss he fp0 fp1 fp2 fL0 fp3 fp4 fm1 fL1 fp5 fp6 fm2 fL2
    refine ⟨_, rfl, L2, rfl, ⟨[V.ref p0, V.ref p1, V.ref p2, V.ref p3, V.ref p4, V.ref p5, V.ref p6], SqL.of fL2⟩, fun L hL => ?_⟩
    have itm : ∀ (i : Nat) (y : V), ([V.ref p0, V.ref p1, V.ref p2, V.ref p3, V.ref p4, V.ref p5, V.ref p6] : List V)[i]? = some y → ∃ (pp : Addr) (u : Str × Bool), ([("name", true), ("day", false), ("worth", false), ("book", false), ("toomany", false), ("many", false), ("amount", false)] : List (Str × Bool))[i]? = some u ∧ y = .ref pp ∧ G11 pp = some (.tup [V.str u.1, V.bl u.2]) := by
      intro i y hy
      match i, hy with
      | 0, hy => cases hy; exact ⟨p0, _, rfl, rfl, fp0⟩
      | 1, hy => cases hy; exact ⟨p1, _, rfl, rfl, fp1⟩
      | 2, hy => cases hy; exact ⟨p2, _, rfl, rfl, fp2⟩
      | 3, hy => cases hy; exact ⟨p3, _, rfl, rfl, fp3⟩
      | 4, hy => cases hy; exact ⟨p4, _, rfl, rfl, fp4⟩
      | 5, hy => cases hy; exact ⟨p5, _, rfl, rfl, fp5⟩
      | 6, hy => cases hy; exact ⟨p6, _, rfl, rfl, fp6⟩
      | i + 7, hy => simp at hy
    refine lc_list (xs := [V.ref p0, V.ref p1, V.ref p2, V.ref p3, V.ref p4, V.ref p5, V.ref p6]) (fun i H' => H' L = some (.lst (((([("name", true), ("day", false), ("worth", false), ("book", false), ("toomany", false), ("many", false), ("amount", false)] : List (Str × Bool)).take i).filter fun u => u.2).map fun u => V.str u.1)) ∧ Same G11 H') ?_ ?_ ?_ ?_
    · exact ⟨upd_same, same_new hL⟩
    · rintro i H1 hi ⟨_, s1⟩
      exact SqL.of (s1 _ _ fL2)
    · rintro i y H1 hy ⟨h1, s1⟩
      obtain ⟨pp, u, hu, rfl, hpp⟩ := itm i y hy
      refine ⟨pp, _, rfl, SqT.of (s1 _ _ hpp), rfl, _, _, rfl, _, _, rfl, rfl, rfl, ?_⟩
      refine ⟨_, rfl, _, rfl, ?_⟩
      refine ite2 (fun g1 => ?_) (fun g1 => ?_)
      · refine ⟨_, rfl, _, _, _, _, _, rfl, rfl, .exc (s1 _ _ he) T.ex_NoName, T.is_NoName_ValueError, _, rfl, iteT ?_⟩
        refine ⟨_, rfl, _, h1, small1000 ?_, ?_, fun b o e => ?_⟩
        · have := filtm_len (ns := ([("name", true), ("day", false), ("worth", false), ("book", false), ("toomany", false), ("many", false), ("amount", false)] : List (Str × Bool))) (p := fun u => u.2) (f := fun u => V.str u.1) (i := i)
          have h7 : ([("name", true), ("day", false), ("worth", false), ("book", false), ("toomany", false), ("many", false), ("amount", false)] : List (Str × Bool)).length = 7 := rfl
          omega
        · rw [upd_same, filtm_yes (p := fun u : Str × Bool => u.2) (f := fun u => V.str u.1) hu g1]
        · rw [upd_ne (ne_of_none e hL)]; exact s1 b o e
      · exact ⟨by rw [h1, filtm_no (p := fun u : Str × Bool => u.2) (f := fun u => V.str u.1) hu g1], s1⟩
    · rintro H1 ⟨h1, s1⟩
      exact q L H1 h1 (ss.trans s1)
theorem ok_named_NoDay (T : Env K mg t) : FnOk P w K mg base CX0 1 t.a_l_named t.fd_l_named ["_law_e"] (spNamed t.C_NoDay "day") := by
  refine T.f_l_named.okQ sc_l_named (fun vs H Q E h => ?_) (fun cdv A outer s H vs Q E hr h => ?_)
  · obtain ⟨ea, rfl, _⟩ := h
    rfl
  · obtain ⟨ea, rfl, he, q⟩ := h
    refine ⟨_, (q_pss_cons (q_ps_set (i := 1) sc_l_named.nd rfl (by first | exact Or.inl rfl | exact Or.inr (Or.inl rfl) | exact Or.inr rfl) (q_pe_lst (q_pa_cons (q_pe_tup (q_pa_cons q_pe_str (q_pa_cons (q_pe_callB call_isinstG (by rfl) T.z_isinstance (by decide +kernel) (q_pa_cons (q_pv 0) (q_pa_cons (q_pe_glob (v := .ref _) (by rfl) T.mg_NoName rfl) q_pa_nil star_Name) star_Name)) q_pa_nil star_Call) star_Constant)) (q_pa_cons (q_pe_tup (q_pa_cons q_pe_str (q_pa_cons (q_pe_callB call_isinstG (by rfl) T.z_isinstance (by decide +kernel) (q_pa_cons (q_pv 0) (q_pa_cons (q_pe_glob (v := .ref _) (by rfl) T.mg_NoDay rfl) q_pa_nil star_Name) star_Name)) q_pa_nil star_Call) star_Constant)) (q_pa_cons (q_pe_tup (q_pa_cons q_pe_str (q_pa_cons (q_pe_callB call_isinstG (by rfl) T.z_isinstance (by decide +kernel) (q_pa_cons (q_pv 0) (q_pa_cons (q_pe_glob (v := .ref _) (by rfl) T.mg_NoWorth rfl) q_pa_nil star_Name) star_Name)) q_pa_nil star_Call) star_Constant)) q_pa_nil star_Tuple) star_Tuple) star_Tuple)))
      (q_pss_cons (q_ps_set (i := 1) sc_l_named.nd rfl (by first | exact Or.inl rfl | exact Or.inr (Or.inl rfl) | exact Or.inr rfl) (q_pe_op op_cat (q_pv 1) (q_pe_lst (q_pa_cons (q_pe_tup (q_pa_cons q_pe_str (q_pa_cons (q_pe_callB call_isinstG (by rfl) T.z_isinstance (by decide +kernel) (q_pa_cons (q_pv 0) (q_pa_cons (q_pe_glob (v := .ref _) (by rfl) T.mg_NoBook rfl) q_pa_nil star_Name) star_Name)) q_pa_nil star_Call) star_Constant)) (q_pa_cons (q_pe_tup (q_pa_cons q_pe_str (q_pa_cons (q_pe_callB call_isinstG (by rfl) T.z_isinstance (by decide +kernel) (q_pa_cons (q_pv 0) (q_pa_cons (q_pe_glob (v := .ref _) (by rfl) T.mg_TooMany rfl) q_pa_nil star_Name) star_Name)) q_pa_nil star_Call) star_Constant)) q_pa_nil star_Tuple) star_Tuple))))
      (q_pss_cons (q_ps_set (i := 1) sc_l_named.nd rfl (by first | exact Or.inl rfl | exact Or.inr (Or.inl rfl) | exact Or.inr rfl) (q_pe_op op_cat (q_pv 1) (q_pe_lst (q_pa_cons (q_pe_tup (q_pa_cons q_pe_str (q_pa_cons (q_pe_callB call_isinstG (by rfl) T.z_isinstance (by decide +kernel) (q_pa_cons (q_pv 0) (q_pa_cons (q_pe_glob (v := .ref _) (by rfl) T.mg_NoMany rfl) q_pa_nil star_Name) star_Name)) q_pa_nil star_Call) star_Constant)) (q_pa_cons (q_pe_tup (q_pa_cons q_pe_str (q_pa_cons (q_pe_callB call_isinstG (by rfl) T.z_isinstance (by decide +kernel) (q_pa_cons (q_pv 0) (q_pa_cons (q_pe_glob (v := .ref _) (by rfl) T.mg_NoAmount rfl) q_pa_nil star_Name) star_Name)) q_pa_nil star_Call) star_Constant)) q_pa_nil star_Tuple) star_Tuple))))
      (q_pss_one (q_ps_ret (q_pe_lc (own := [("_law_word_here", 2), ("_law_is_one", 3)]) (g := _) (by rfl) sc_l_named.nd (q_pi_list (q_pv 1)) (blkOk_by (own := [("_law_word_here", 2), ("_law_is_one", 3)]) (N := ["_law_e", "_law_found", "_law_word_here", "_law_is_one"]) (sc := defScope s_l_named) (by decide +kernel)) (fun _ _ _ _ _ => (q_pg_tupK (K := K) 2 rfl (by rfl) (q_pgs_cons (q_pg_name (i := 2) sc_l_named.nd rfl (by first | exact Or.inl rfl | exact Or.inr (Or.inl rfl) | exact Or.inr rfl)) (q_pgs_cons (q_pg_name (i := 3) sc_l_named.nd rfl (by first | exact Or.inl rfl | exact Or.inr (Or.inl rfl) | exact Or.inr rfl)) q_pgs_nil)))) (fun _ _ _ _ _ => (q_pts_one (QW.pt (q_pw_and (q_pt_val (q_pv 3)) (q_pw_and1 (q_pt_val (q_pe_callB (call_isinstGK (K := K) rfl) (by rfl) T.z_isinstance (by decide +kernel) (q_pa_cons (q_pv 0) (q_pa_cons (q_pe_bltn (v := .ty "ValueError") (by rfl) T.z_ValueError (by decide +kernel) rfl) q_pa_nil star_Name) star_Name)))))))) (fun _ _ _ _ _ => (q_pv 2)))))))), ?_⟩
    have ss : Same H H := Same.refl _
    refine ⟨_, rfl, _, _, _, _, _, rfl, rfl, .exc he T.ex_NoDay, T.is_NoDay_NoName, (by show 2 ≤ sizeLine; decide), fun p0 hp0 => ?_⟩
    have S := same_new (o := .tup [V.str "name", V.bl false]) hp0
    have ss := ss.trans S
    have he := S _ _ he
    have fp0 := new_at (o := .tup [V.str "name", V.bl false]) hp0
    clear S
    generalize (upd H p0 (.tup [V.str "name", V.bl false])) = G0 at ss he fp0
    refine ⟨_, rfl, _, _, _, _, _, rfl, rfl, .exc he T.ex_NoDay, T.is_NoDay_NoDay, (by show 2 ≤ sizeLine; decide), fun p1 hp1 => ?_⟩
    have S := same_new (o := .tup [V.str "day", V.bl true]) hp1
    have ss := ss.trans S
    have he := S _ _ he
    have fp0 := S _ _ fp0
    have fp1 := new_at (o := .tup [V.str "day", V.bl true]) hp1
    clear S
    generalize (upd G0 p1 (.tup [V.str "day", V.bl true])) = G1 at ss he fp0 fp1
    refine ⟨_, rfl, _, _, _, _, _, rfl, rfl, .exc he T.ex_NoDay, T.is_NoDay_NoWorth, (by show 2 ≤ sizeLine; decide), fun p2 hp2 => ?_⟩
    have S := same_new (o := .tup [V.str "worth", V.bl false]) hp2
    have ss := ss.trans S
    have he := S _ _ he
    have fp0 := S _ _ fp0
    have fp1 := S _ _ fp1
    have fp2 := new_at (o := .tup [V.str "worth", V.bl false]) hp2
    clear S
    generalize (upd G1 p2 (.tup [V.str "worth", V.bl false])) = G2 at ss he fp0 fp1 fp2
    refine ⟨(by show 3 ≤ sizeLine; decide), fun L0 hL0 => ?_⟩
    have S := same_new (o := .lst [V.ref p0, V.ref p1, V.ref p2]) hL0
    have ss := ss.trans S
    have he := S _ _ he
    have fp0 := S _ _ fp0
    have fp1 := S _ _ fp1
    have fp2 := S _ _ fp2
    have fL0 := new_at (o := .lst [V.ref p0, V.ref p1, V.ref p2]) hL0
    clear S
    generalize (upd G2 L0 (.lst [V.ref p0, V.ref p1, V.ref p2])) = G3 at ss he fp0 fp1 fp2 fL0
    refine ⟨_, rfl, ?_⟩
    refine ⟨_, rfl, _, _, _, _, _, rfl, rfl, .exc he T.ex_NoDay, T.is_NoDay_NoBook, (by show 2 ≤ sizeLine; decide), fun p3 hp3 => ?_⟩
    have S := same_new (o := .tup [V.str "book", V.bl false]) hp3
    have ss := ss.trans S
    have he := S _ _ he
    have fp0 := S _ _ fp0
    have fp1 := S _ _ fp1
    have fp2 := S _ _ fp2
    have fL0 := S _ _ fL0
    have fp3 := new_at (o := .tup [V.str "book", V.bl false]) hp3
    clear S
    generalize (upd G3 p3 (.tup [V.str "book", V.bl false])) = G4 at ss he fp0 fp1 fp2 fL0 fp3
    refine ⟨_, rfl, _, _, _, _, _, rfl, rfl, .exc he T.ex_NoDay, T.is_NoDay_TooMany, (by show 2 ≤ sizeLine; decide), fun p4 hp4 => ?_⟩
    have S := same_new (o := .tup [V.str "toomany", V.bl false]) hp4
    have ss := ss.trans S
    have he := S _ _ he
    have fp0 := S _ _ fp0
    have fp1 := S _ _ fp1
    have fp2 := S _ _ fp2
    have fL0 := S _ _ fL0
    have fp3 := S _ _ fp3
    have fp4 := new_at (o := .tup [V.str "toomany", V.bl false]) hp4
    clear S
    generalize (upd G4 p4 (.tup [V.str "toomany", V.bl false])) = G5 at ss he fp0 fp1 fp2 fL0 fp3 fp4
    refine ⟨(by show 2 ≤ sizeLine; decide), fun m1 hm1 => ?_⟩
    have S := same_new (o := .lst [V.ref p3, V.ref p4]) hm1
    have ss := ss.trans S
    have he := S _ _ he
    have fp0 := S _ _ fp0
    have fp1 := S _ _ fp1
    have fp2 := S _ _ fp2
    have fL0 := S _ _ fL0
    have fp3 := S _ _ fp3
    have fp4 := S _ _ fp4
    have fm1 := new_at (o := .lst [V.ref p3, V.ref p4]) hm1
    clear S
    generalize (upd G5 m1 (.lst [V.ref p3, V.ref p4])) = G6 at ss he fp0 fp1 fp2 fL0 fp3 fp4 fm1
    refine ⟨L0, m1, _, _, rfl, rfl, fL0, fm1, (by show 3 + 2 ≤ sizeLine; decide), fun L1 hL1 => ?_⟩
    have S := same_new (o := .lst ([V.ref p0, V.ref p1, V.ref p2] ++ [V.ref p3, V.ref p4])) hL1
    have ss := ss.trans S
    have he := S _ _ he
    have fp0 := S _ _ fp0
    have fp1 := S _ _ fp1
    have fp2 := S _ _ fp2
    have fL0 := S _ _ fL0
    have fp3 := S _ _ fp3
    have fp4 := S _ _ fp4
    have fm1 := S _ _ fm1
    have fL1 := new_at (o := .lst ([V.ref p0, V.ref p1, V.ref p2] ++ [V.ref p3, V.ref p4])) hL1
    clear S
    generalize (upd G6 L1 (.lst ([V.ref p0, V.ref p1, V.ref p2] ++ [V.ref p3, V.ref p4]))) = G7 at ss he fp0 fp1 fp2 fL0 fp3 fp4 fm1 fL1
    refine ⟨_, rfl, ?_⟩
    refine ⟨_, rfl, _, _, _, _, _, rfl, rfl, .exc he T.ex_NoDay, T.is_NoDay_NoMany, (by show 2 ≤ sizeLine; decide), fun p5 hp5 => ?_⟩
    have S := same_new (o := .tup [V.str "many", V.bl false]) hp5
    have ss := ss.trans S
    have he := S _ _ he
    have fp0 := S _ _ fp0
    have fp1 := S _ _ fp1
    have fp2 := S _ _ fp2
    have fL0 := S _ _ fL0
    have fp3 := S _ _ fp3
    have fp4 := S _ _ fp4
    have fm1 := S _ _ fm1
    have fL1 := S _ _ fL1
    have fp5 := new_at (o := .tup [V.str "many", V.bl false]) hp5
    clear S
    generalize (upd G7 p5 (.tup [V.str "many", V.bl false])) = G8 at ss he fp0 fp1 fp2 fL0 fp3 fp4 fm1 fL1 fp5
    refine ⟨_, rfl, _, _, _, _, _, rfl, rfl, .exc he T.ex_NoDay, T.is_NoDay_NoAmount, (by show 2 ≤ sizeLine; decide), fun p6 hp6 => ?_⟩
    have S := same_new (o := .tup [V.str "amount", V.bl false]) hp6
    have ss := ss.trans S
    have he := S _ _ he
    have fp0 := S _ _ fp0
    have fp1 := S _ _ fp1
    have fp2 := S _ _ fp2
    have fL0 := S _ _ fL0
    have fp3 := S _ _ fp3
    have fp4 := S _ _ fp4
    have fm1 := S _ _ fm1
    have fL1 := S _ _ fL1
    have fp5 := S _ _ fp5
    have fp6 := new_at (o := .tup [V.str "amount", V.bl false]) hp6
    clear S
    generalize (upd G8 p6 (.tup [V.str "amount", V.bl false])) = G9 at ss he fp0 fp1 fp2 fL0 fp3 fp4 fm1 fL1 fp5 fp6
    refine ⟨(by show 2 ≤ sizeLine; decide), fun m2 hm2 => ?_⟩
    have S := same_new (o := .lst [V.ref p5, V.ref p6]) hm2
    have ss := ss.trans S
    have he := S _ _ he
    have fp0 := S _ _ fp0
    have fp1 := S _ _ fp1
    have fp2 := S _ _ fp2
    have fL0 := S _ _ fL0
    have fp3 := S _ _ fp3
    have fp4 := S _ _ fp4
    have fm1 := S _ _ fm1
    have fL1 := S _ _ fL1
    have fp5 := S _ _ fp5
    have fp6 := S _ _ fp6
    have fm2 := new_at (o := .lst [V.ref p5, V.ref p6]) hm2
    clear S
    generalize (upd G9 m2 (.lst [V.ref p5, V.ref p6])) = G10 at ss he fp0 fp1 fp2 fL0 fp3 fp4 fm1 fL1 fp5 fp6 fm2
    refine ⟨L1, m2, _, _, rfl, rfl, fL1, fm2, (by show 5 + 2 ≤ sizeLine; decide), fun L2 hL2 => ?_⟩
    have S := same_new (o := .lst ([V.ref p0, V.ref p1, V.ref p2] ++ [V.ref p3, V.ref p4] ++ [V.ref p5, V.ref p6])) hL2
    have ss := ss.trans S
    have he := S _ _ he
    have fp0 := S _ _ fp0
    have fp1 := S _ _ fp1
    have fp2 := S _ _ fp2
    have fL0 := S _ _ fL0
    have fp3 := S _ _ fp3
    have fp4 := S _ _ fp4
    have fm1 := S _ _ fm1
    have fL1 := S _ _ fL1
    have fp5 := S _ _ fp5
    have fp6 := S _ _ fp6
    have fm2 := S _ _ fm2
    have fL2 := new_at (o := .lst ([V.ref p0, V.ref p1, V.ref p2] ++ [V.ref p3, V.ref p4] ++ [V.ref p5, V.ref p6])) hL2
    clear S
    generalize (upd G10 L2 (.lst ([V.ref p0, V.ref p1, V.ref p2] ++ [V.ref p3, V.ref p4] ++ [V.ref p5, V.ref p6]))) = G11 at ss he fp0 fp1 fp2 fL0 fp3 fp4 fm1 fL1 fp5 fp6 fm2 fL2
    refine ⟨_, rfl, L2, rfl, ⟨[V.ref p0, V.ref p1, V.ref p2, V.ref p3, V.ref p4, V.ref p5, V.ref p6], SqL.of fL2⟩, fun L hL => ?_⟩
    have itm : ∀ (i : Nat) (y : V), ([V.ref p0, V.ref p1, V.ref p2, V.ref p3, V.ref p4, V.ref p5, V.ref p6] : List V)[i]? = some y → ∃ (pp : Addr) (u : Str × Bool), ([("name", false), ("day", true), ("worth", false), ("book", false), ("toomany", false), ("many", false), ("amount", false)] : List (Str × Bool))[i]? = some u ∧ y = .ref pp ∧ G11 pp = some (.tup [V.str u.1, V.bl u.2]) := by
      intro i y hy
      match i, hy with
      | 0, hy => cases hy; exact ⟨p0, _, rfl, rfl, fp0⟩
      | 1, hy => cases hy; exact ⟨p1, _, rfl, rfl, fp1⟩
      | 2, hy => cases hy; exact ⟨p2, _, rfl, rfl, fp2⟩
      | 3, hy => cases hy; exact ⟨p3, _, rfl, rfl, fp3⟩
      | 4, hy => cases hy; exact ⟨p4, _, rfl, rfl, fp4⟩
      | 5, hy => cases hy; exact ⟨p5, _, rfl, rfl, fp5⟩
      | 6, hy => cases hy; exact ⟨p6, _, rfl, rfl, fp6⟩
      | i + 7, hy => simp at hy
    refine lc_list (xs := [V.ref p0, V.ref p1, V.ref p2, V.ref p3, V.ref p4, V.ref p5, V.ref p6]) (fun i H' => H' L = some (.lst (((([("name", false), ("day", true), ("worth", false), ("book", false), ("toomany", false), ("many", false), ("amount", false)] : List (Str × Bool)).take i).filter fun u => u.2).map fun u => V.str u.1)) ∧ Same G11 H') ?_ ?_ ?_ ?_
    · exact ⟨upd_same, same_new hL⟩
    · rintro i H1 hi ⟨_, s1⟩
      exact SqL.of (s1 _ _ fL2)
    · rintro i y H1 hy ⟨h1, s1⟩
      obtain ⟨pp, u, hu, rfl, hpp⟩ := itm i y hy
      refine ⟨pp, _, rfl, SqT.of (s1 _ _ hpp), rfl, _, _, rfl, _, _, rfl, rfl, rfl, ?_⟩
      refine ⟨_, rfl, _, rfl, ?_⟩
      refine ite2 (fun g1 => ?_) (fun g1 => ?_)
      · refine ⟨_, rfl, _, _, _, _, _, rfl, rfl, .exc (s1 _ _ he) T.ex_NoDay, T.is_NoDay_ValueError, _, rfl, iteT ?_⟩
        refine ⟨_, rfl, _, h1, small1000 ?_, ?_, fun b o e => ?_⟩
        · have := filtm_len (ns := ([("name", false), ("day", true), ("worth", false), ("book", false), ("toomany", false), ("many", false), ("amount", false)] : List (Str × Bool))) (p := fun u => u.2) (f := fun u => V.str u.1) (i := i)
          have h7 : ([("name", false), ("day", true), ("worth", false), ("book", false), ("toomany", false), ("many", false), ("amount", false)] : List (Str × Bool)).length = 7 := rfl
          omega
        · rw [upd_same, filtm_yes (p := fun u : Str × Bool => u.2) (f := fun u => V.str u.1) hu g1]
        · rw [upd_ne (ne_of_none e hL)]; exact s1 b o e
      · exact ⟨by rw [h1, filtm_no (p := fun u : Str × Bool => u.2) (f := fun u => V.str u.1) hu g1], s1⟩
    · rintro H1 ⟨h1, s1⟩
      exact q L H1 h1 (ss.trans s1)
theorem ok_named_NoBook (T : Env K mg t) : FnOk P w K mg base CX0 1 t.a_l_named t.fd_l_named ["_law_e"] (spNamed t.C_NoBook "book") := by
  refine T.f_l_named.okQ sc_l_named (fun vs H Q E h => ?_) (fun cdv A outer s H vs Q E hr h => ?_)
  · obtain ⟨ea, rfl, _⟩ := h
    rfl
  · obtain ⟨ea, rfl, he, q⟩ := h
    refine ⟨_, (q_pss_cons (q_ps_set (i := 1) sc_l_named.nd rfl (by first | exact Or.inl rfl | exact Or.inr (Or.inl rfl) | exact Or.inr rfl) (q_pe_lst (q_pa_cons (q_pe_tup (q_pa_cons q_pe_str (q_pa_cons (q_pe_callB call_isinstG (by rfl) T.z_isinstance (by decide +kernel) (q_pa_cons (q_pv 0) (q_pa_cons (q_pe_glob (v := .ref _) (by rfl) T.mg_NoName rfl) q_pa_nil star_Name) star_Name)) q_pa_nil star_Call) star_Constant)) (q_pa_cons (q_pe_tup (q_pa_cons q_pe_str (q_pa_cons (q_pe_callB call_isinstG (by rfl) T.z_isinstance (by decide +kernel) (q_pa_cons (q_pv 0) (q_pa_cons (q_pe_glob (v := .ref _) (by rfl) T.mg_NoDay rfl) q_pa_nil star_Name) star_Name)) q_pa_nil star_Call) star_Constant)) (q_pa_cons (q_pe_tup (q_pa_cons q_pe_str (q_pa_cons (q_pe_callB call_isinstG (by rfl) T.z_isinstance (by decide +kernel) (q_pa_cons (q_pv 0) (q_pa_cons (q_pe_glob (v := .ref _) (by rfl) T.mg_NoWorth rfl) q_pa_nil star_Name) star_Name)) q_pa_nil star_Call) star_Constant)) q_pa_nil star_Tuple) star_Tuple) star_Tuple)))
      (q_pss_cons (q_ps_set (i := 1) sc_l_named.nd rfl (by first | exact Or.inl rfl | exact Or.inr (Or.inl rfl) | exact Or.inr rfl) (q_pe_op op_cat (q_pv 1) (q_pe_lst (q_pa_cons (q_pe_tup (q_pa_cons q_pe_str (q_pa_cons (q_pe_callB call_isinstG (by rfl) T.z_isinstance (by decide +kernel) (q_pa_cons (q_pv 0) (q_pa_cons (q_pe_glob (v := .ref _) (by rfl) T.mg_NoBook rfl) q_pa_nil star_Name) star_Name)) q_pa_nil star_Call) star_Constant)) (q_pa_cons (q_pe_tup (q_pa_cons q_pe_str (q_pa_cons (q_pe_callB call_isinstG (by rfl) T.z_isinstance (by decide +kernel) (q_pa_cons (q_pv 0) (q_pa_cons (q_pe_glob (v := .ref _) (by rfl) T.mg_TooMany rfl) q_pa_nil star_Name) star_Name)) q_pa_nil star_Call) star_Constant)) q_pa_nil star_Tuple) star_Tuple))))
      (q_pss_cons (q_ps_set (i := 1) sc_l_named.nd rfl (by first | exact Or.inl rfl | exact Or.inr (Or.inl rfl) | exact Or.inr rfl) (q_pe_op op_cat (q_pv 1) (q_pe_lst (q_pa_cons (q_pe_tup (q_pa_cons q_pe_str (q_pa_cons (q_pe_callB call_isinstG (by rfl) T.z_isinstance (by decide +kernel) (q_pa_cons (q_pv 0) (q_pa_cons (q_pe_glob (v := .ref _) (by rfl) T.mg_NoMany rfl) q_pa_nil star_Name) star_Name)) q_pa_nil star_Call) star_Constant)) (q_pa_cons (q_pe_tup (q_pa_cons q_pe_str (q_pa_cons (q_pe_callB call_isinstG (by rfl) T.z_isinstance (by decide +kernel) (q_pa_cons (q_pv 0) (q_pa_cons (q_pe_glob (v := .ref _) (by rfl) T.mg_NoAmount rfl) q_pa_nil star_Name) star_Name)) q_pa_nil star_Call) star_Constant)) q_pa_nil star_Tuple) star_Tuple))))
      (q_pss_one (q_ps_ret (q_pe_lc (own := [("_law_word_here", 2), ("_law_is_one", 3)]) (g := _) (by rfl) sc_l_named.nd (q_pi_list (q_pv 1)) (blkOk_by (own := [("_law_word_here", 2), ("_law_is_one", 3)]) (N := ["_law_e", "_law_found", "_law_word_here", "_law_is_one"]) (sc := defScope s_l_named) (by decide +kernel)) (fun _ _ _ _ _ => (q_pg_tupK (K := K) 2 rfl (by rfl) (q_pgs_cons (q_pg_name (i := 2) sc_l_named.nd rfl (by first | exact Or.inl rfl | exact Or.inr (Or.inl rfl) | exact Or.inr rfl)) (q_pgs_cons (q_pg_name (i := 3) sc_l_named.nd rfl (by first | exact Or.inl rfl | exact Or.inr (Or.inl rfl) | exact Or.inr rfl)) q_pgs_nil)))) (fun _ _ _ _ _ => (q_pts_one (QW.pt (q_pw_and (q_pt_val (q_pv 3)) (q_pw_and1 (q_pt_val (q_pe_callB (call_isinstGK (K := K) rfl) (by rfl) T.z_isinstance (by decide +kernel) (q_pa_cons (q_pv 0) (q_pa_cons (q_pe_bltn (v := .ty "ValueError") (by rfl) T.z_ValueError (by decide +kernel) rfl) q_pa_nil star_Name) star_Name)))))))) (fun _ _ _ _ _ => (q_pv 2)))))))), ?_⟩
    have ss : Same H H := Same.refl _
    refine ⟨_, rfl, _, _, _, _, _, rfl, rfl, .exc he T.ex_NoBook, T.is_NoBook_NoName, (by show 2 ≤ sizeLine; decide), fun p0 hp0 => ?_⟩
    have S := same_new (o := .tup [V.str "name", V.bl false]) hp0
    have ss := ss.trans S
    have he := S _ _ he
    have fp0 := new_at (o := .tup [V.str "name", V.bl false]) hp0
    clear S
    generalize (upd H p0 (.tup [V.str "name", V.bl false])) = G0 at ss he fp0
    refine ⟨_, rfl, _, _, _, _, _, rfl, rfl, .exc he T.ex_NoBook, T.is_NoBook_NoDay, (by show 2 ≤ sizeLine; decide), fun p1 hp1 => ?_⟩
    have S := same_new (o := .tup [V.str "day", V.bl false]) hp1
    have ss := ss.trans S
    have he := S _ _ he
    have fp0 := S _ _ fp0
    have fp1 := new_at (o := .tup [V.str "day", V.bl false]) hp1
    clear S
    generalize (upd G0 p1 (.tup [V.str "day", V.bl false])) = G1 at ss he fp0 fp1
    refine ⟨_, rfl, _, _, _, _, _, rfl, rfl, .exc he T.ex_NoBook, T.is_NoBook_NoWorth, (by show 2 ≤ sizeLine; decide), fun p2 hp2 => ?_⟩
    have S := same_new (o := .tup [V.str "worth", V.bl false]) hp2
    have ss := ss.trans S
    have he := S _ _ he
    have fp0 := S _ _ fp0
    have fp1 := S _ _ fp1
    have fp2 := new_at (o := .tup [V.str "worth", V.bl false]) hp2
    clear S
    generalize (upd G1 p2 (.tup [V.str "worth", V.bl false])) = G2 at ss he fp0 fp1 fp2
    refine ⟨(by show 3 ≤ sizeLine; decide), fun L0 hL0 => ?_⟩
    have S := same_new (o := .lst [V.ref p0, V.ref p1, V.ref p2]) hL0
    have ss := ss.trans S
    have he := S _ _ he
    have fp0 := S _ _ fp0
    have fp1 := S _ _ fp1
    have fp2 := S _ _ fp2
    have fL0 := new_at (o := .lst [V.ref p0, V.ref p1, V.ref p2]) hL0
    clear S
    generalize (upd G2 L0 (.lst [V.ref p0, V.ref p1, V.ref p2])) = G3 at ss he fp0 fp1 fp2 fL0
    refine ⟨_, rfl, ?_⟩
    refine ⟨_, rfl, _, _, _, _, _, rfl, rfl, .exc he T.ex_NoBook, T.is_NoBook_NoBook, (by show 2 ≤ sizeLine; decide), fun p3 hp3 => ?_⟩
    have S := same_new (o := .tup [V.str "book", V.bl true]) hp3
    have ss := ss.trans S
    have he := S _ _ he
    have fp0 := S _ _ fp0
    have fp1 := S _ _ fp1
    have fp2 := S _ _ fp2
    have fL0 := S _ _ fL0
    have fp3 := new_at (o := .tup [V.str "book", V.bl true]) hp3
    clear S
    generalize (upd G3 p3 (.tup [V.str "book", V.bl true])) = G4 at ss he fp0 fp1 fp2 fL0 fp3
    refine ⟨_, rfl, _, _, _, _, _, rfl, rfl, .exc he T.ex_NoBook, T.is_NoBook_TooMany, (by show 2 ≤ sizeLine; decide), fun p4 hp4 => ?_⟩
    have S := same_new (o := .tup [V.str "toomany", V.bl false]) hp4
    have ss := ss.trans S
    have he := S _ _ he
    have fp0 := S _ _ fp0
    have fp1 := S _ _ fp1
    have fp2 := S _ _ fp2
    have fL0 := S _ _ fL0
    have fp3 := S _ _ fp3
    have fp4 := new_at (o := .tup [V.str "toomany", V.bl false]) hp4
    clear S
    generalize (upd G4 p4 (.tup [V.str "toomany", V.bl false])) = G5 at ss he fp0 fp1 fp2 fL0 fp3 fp4
    refine ⟨(by show 2 ≤ sizeLine; decide), fun m1 hm1 => ?_⟩
    have S := same_new (o := .lst [V.ref p3, V.ref p4]) hm1
    have ss := ss.trans S
    have he := S _ _ he
    have fp0 := S _ _ fp0
    have fp1 := S _ _ fp1
    have fp2 := S _ _ fp2
    have fL0 := S _ _ fL0
    have fp3 := S _ _ fp3
    have fp4 := S _ _ fp4
    have fm1 := new_at (o := .lst [V.ref p3, V.ref p4]) hm1
    clear S
    generalize (upd G5 m1 (.lst [V.ref p3, V.ref p4])) = G6 at ss he fp0 fp1 fp2 fL0 fp3 fp4 fm1
    refine ⟨L0, m1, _, _, rfl, rfl, fL0, fm1, (by show 3 + 2 ≤ sizeLine; decide), fun L1 hL1 => ?_⟩
    have S := same_new (o := .lst ([V.ref p0, V.ref p1, V.ref p2] ++ [V.ref p3, V.ref p4])) hL1
    have ss := ss.trans S
    have he := S _ _ he
    have fp0 := S _ _ fp0
    have fp1 := S _ _ fp1
    have fp2 := S _ _ fp2
    have fL0 := S _ _ fL0
    have fp3 := S _ _ fp3
    have fp4 := S _ _ fp4
    have fm1 := S _ _ fm1
    have fL1 := new_at (o := .lst ([V.ref p0, V.ref p1, V.ref p2] ++ [V.ref p3, V.ref p4])) hL1
    clear S
    generalize (upd G6 L1 (.lst ([V.ref p0, V.ref p1, V.ref p2] ++ [V.ref p3, V.ref p4]))) = G7 at ss he fp0 fp1 fp2 fL0 fp3 fp4 fm1 fL1
    refine ⟨_, rfl, ?_⟩
    refine ⟨_, rfl, _, _, _, _, _, rfl, rfl, .exc he T.ex_NoBook, T.is_NoBook_NoMany, (by show 2 ≤ sizeLine; decide), fun p5 hp5 => ?_⟩
    have S := same_new (o := .tup [V.str "many", V.bl false]) hp5
    have ss := ss.trans S
    have he := S _ _ he
    have fp0 := S _ _ fp0
    have fp1 := S _ _ fp1
    have fp2 := S _ _ fp2
    have fL0 := S _ _ fL0
    have fp3 := S _ _ fp3
    have fp4 := S _ _ fp4
    have fm1 := S _ _ fm1
    have fL1 := S _ _ fL1
    have fp5 := new_at (o := .tup [V.str "many", V.bl false]) hp5
    clear S
    generalize (upd G7 p5 (.tup [V.str "many", V.bl false])) = G8 at ss he fp0 fp1 fp2 fL0 fp3 fp4 fm1 fL1 fp5
    refine ⟨_, rfl, _, _, _, _, _, rfl, rfl, .exc he T.ex_NoBook, T.is_NoBook_NoAmount, (by show 2 ≤ sizeLine; decide), fun p6 hp6 => ?_⟩
    have S := same_new (o := .tup [V.str "amount", V.bl false]) hp6
    have ss := ss.trans S
    have he := S _ _ he
    have fp0 := S _ _ fp0
    have fp1 := S _ _ fp1
    have fp2 := S _ _ fp2
    have fL0 := S _ _ fL0
    have fp3 := S _ _ fp3
    have fp4 := S _ _ fp4
    have fm1 := S _ _ fm1
    have fL1 := S _ _ fL1
    have fp5 := S _ _ fp5
    have fp6 := new_at (o := .tup [V.str "amount", V.bl false]) hp6
    clear S
    generalize (upd G8 p6 (.tup [V.str "amount", V.bl false])) = G9 at ss he fp0 fp1 fp2 fL0 fp3 fp4 fm1 fL1 fp5 fp6
    refine ⟨(by show 2 ≤ sizeLine; decide), fun m2 hm2 => ?_⟩
    have S := same_new (o := .lst [V.ref p5, V.ref p6]) hm2
    have ss := ss.trans S
    have he := S _ _ he
    have fp0 := S _ _ fp0
    have fp1 := S _ _ fp1
    have fp2 := S _ _ fp2
    have fL0 := S _ _ fL0
    have fp3 := S _ _ fp3
    have fp4 := S _ _ fp4
    have fm1 := S _ _ fm1
    have fL1 := S _ _ fL1
    have fp5 := S _ _ fp5
    have fp6 := S _ _ fp6
    have fm2 := new_at (o := .lst [V.ref p5, V.ref p6]) hm2
    clear S
    generalize (upd G9 m2 (.lst [V.ref p5, V.ref p6])) = G10 at ss he fp0 fp1 fp2 fL0 fp3 fp4 fm1 fL1 fp5 fp6 fm2
    refine ⟨L1, m2, _, _, rfl, rfl, fL1, fm2, (by show 5 + 2 ≤ sizeLine; decide), fun L2 hL2 => ?_⟩
    have S := same_new (o := .lst ([V.ref p0, V.ref p1, V.ref p2] ++ [V.ref p3, V.ref p4] ++ [V.ref p5, V.ref p6])) hL2
    have ss := ss.trans S
    have he := S _ _ he
    have fp0 := S _ _ fp0
    have fp1 := S _ _ fp1
    have fp2 := S _ _ fp2
    have fL0 := S _ _ fL0
    have fp3 := S _ _ fp3
    have fp4 := S _ _ fp4
    have fm1 := S _ _ fm1
    have fL1 := S _ _ fL1
    have fp5 := S _ _ fp5
    have fp6 := S _ _ fp6
    have fm2 := S _ _ fm2
    have fL2 := new_at (o := .lst ([V.ref p0, V.ref p1, V.ref p2] ++ [V.ref p3, V.ref p4] ++ [V.ref p5, V.ref p6])) hL2
    clear S
    generalize (upd G10 L2 (.lst ([V.ref p0, V.ref p1, V.ref p2] ++ [V.ref p3, V.ref p4] ++ [V.ref p5, V.ref p6]))) = G11 at ss he fp0 fp1 fp2 fL0 fp3 fp4 fm1 fL1 fp5 fp6 fm2 fL2
    refine ⟨_, rfl, L2, rfl, ⟨[V.ref p0, V.ref p1, V.ref p2, V.ref p3, V.ref p4, V.ref p5, V.ref p6], SqL.of fL2⟩, fun L hL => ?_⟩
    have itm : ∀ (i : Nat) (y : V), ([V.ref p0, V.ref p1, V.ref p2, V.ref p3, V.ref p4, V.ref p5, V.ref p6] : List V)[i]? = some y → ∃ (pp : Addr) (u : Str × Bool), ([("name", false), ("day", false), ("worth", false), ("book", true), ("toomany", false), ("many", false), ("amount", false)] : List (Str × Bool))[i]? = some u ∧ y = .ref pp ∧ G11 pp = some (.tup [V.str u.1, V.bl u.2]) := by
      intro i y hy
      match i, hy with
      | 0, hy => cases hy; exact ⟨p0, _, rfl, rfl, fp0⟩
      | 1, hy => cases hy; exact ⟨p1, _, rfl, rfl, fp1⟩
      | 2, hy => cases hy; exact ⟨p2, _, rfl, rfl, fp2⟩
      | 3, hy => cases hy; exact ⟨p3, _, rfl, rfl, fp3⟩
      | 4, hy => cases hy; exact ⟨p4, _, rfl, rfl, fp4⟩
      | 5, hy => cases hy; exact ⟨p5, _, rfl, rfl, fp5⟩
      | 6, hy => cases hy; exact ⟨p6, _, rfl, rfl, fp6⟩
      | i + 7, hy => simp at hy
    refine lc_list (xs := [V.ref p0, V.ref p1, V.ref p2, V.ref p3, V.ref p4, V.ref p5, V.ref p6]) (fun i H' => H' L = some (.lst (((([("name", false), ("day", false), ("worth", false), ("book", true), ("toomany", false), ("many", false), ("amount", false)] : List (Str × Bool)).take i).filter fun u => u.2).map fun u => V.str u.1)) ∧ Same G11 H') ?_ ?_ ?_ ?_
    · exact ⟨upd_same, same_new hL⟩
    · rintro i H1 hi ⟨_, s1⟩
      exact SqL.of (s1 _ _ fL2)
    · rintro i y H1 hy ⟨h1, s1⟩
      obtain ⟨pp, u, hu, rfl, hpp⟩ := itm i y hy
      refine ⟨pp, _, rfl, SqT.of (s1 _ _ hpp), rfl, _, _, rfl, _, _, rfl, rfl, rfl, ?_⟩
      refine ⟨_, rfl, _, rfl, ?_⟩
      refine ite2 (fun g1 => ?_) (fun g1 => ?_)
      · refine ⟨_, rfl, _, _, _, _, _, rfl, rfl, .exc (s1 _ _ he) T.ex_NoBook, T.is_NoBook_ValueError, _, rfl, iteT ?_⟩
        refine ⟨_, rfl, _, h1, small1000 ?_, ?_, fun b o e => ?_⟩
        · have := filtm_len (ns := ([("name", false), ("day", false), ("worth", false), ("book", true), ("toomany", false), ("many", false), ("amount", false)] : List (Str × Bool))) (p := fun u => u.2) (f := fun u => V.str u.1) (i := i)
          have h7 : ([("name", false), ("day", false), ("worth", false), ("book", true), ("toomany", false), ("many", false), ("amount", false)] : List (Str × Bool)).length = 7 := rfl
          omega
        · rw [upd_same, filtm_yes (p := fun u : Str × Bool => u.2) (f := fun u => V.str u.1) hu g1]
        · rw [upd_ne (ne_of_none e hL)]; exact s1 b o e
      · exact ⟨by rw [h1, filtm_no (p := fun u : Str × Bool => u.2) (f := fun u => V.str u.1) hu g1], s1⟩
    · rintro H1 ⟨h1, s1⟩
      exact q L H1 h1 (ss.trans s1)
def WordOf (t : Ad) (C : Addr) (wd : Str) : Prop := (C = t.C_NoName ∧ wd = "name") ∨ (C = t.C_NoDay ∧ wd = "day") ∨ (C = t.C_NoBook ∧ wd = "book")
def spNamedA (t : Ad) : Sp := fun vs H Q E => ∃ C wd, WordOf t C wd ∧ spNamed C wd vs H Q E
theorem ok_named (T : Env K mg t) : FnOk P w K mg base CX0 1 t.a_l_named t.fd_l_named ["_law_e"] (spNamedA t) := by
  refine FnOk.imp (or1 (ok_named_NoName T) (or1 (ok_named_NoDay T) (ok_named_NoBook T))) ?_
  rintro vs H Q E ⟨C, wd, h | h | h, q⟩
  · obtain ⟨rfl, rfl⟩ := h; exact .inl q
  · obtain ⟨rfl, rfl⟩ := h; exact .inr (.inl q)
  · obtain ⟨rfl, rfl⟩ := h; exact .inr (.inr q)
end
end Ck
set_option Elab.async false
set_option linter.all false
set_option maxRecDepth 100000
set_option maxHeartbeats 4000000
namespace Ck
open PySem L2
def toldD (D : PyData) : PyData := .tuple [.str "told", D]
def refD (wd : Str) : PyData := .tuple [.str "refused", .list [.str wd]]
def AnsIs (way : Int) (tn kd : Str) (dv : V) (rows : List CRow) (D : PyData) : Prop := (way = 0 ∧ ∃ d r, dv = .int d ∧ IsWorth rows tn kd d r ∧ D = .int r) ∨ (way = 1 ∧ ∃ ps, IsTurns rows tn kd ps ∧ D = .list (ps.map prD)) ∨ (way = 2 ∧ D = .list (rows.map rowD))
theorem AnsIs.unique {way : Int} {tn kd : Str} {dv : V} {rows : List CRow} {D D' : PyData} (h : AnsIs way tn kd dv rows D) (h' : AnsIs way tn kd dv rows D') : D = D' := by
  rcases h with ⟨e, d, r, rfl, i, rfl⟩ | ⟨e, ps, i, rfl⟩ | ⟨e, rfl⟩
  · rcases h' with ⟨_, d', r', e', i', rfl⟩ | ⟨e', _⟩ | ⟨e', _⟩
    · cases e'
      rw [i.unique i']
    · omega
    · omega
  · rcases h' with ⟨e', _⟩ | ⟨_, ps', i', rfl⟩ | ⟨e', _⟩
    · omega
    · rw [i.unique i']
    · omega
  · rcases h' with ⟨e', _⟩ | ⟨e', _⟩ | ⟨_, rfl⟩
    · omega
    · omega
    · rfl
theorem AnsIs.lay {way : Int} {tn kd : Str} {dv : V} {rows : List CRow} {D : PyData} (h : AnsIs way tn kd dv rows D) (g : ∀ r ∈ rows, Okt r.1 ∧ Okt r.2.1) : D.canLay0 = true ∧ D.depth ≤ 3 := by
  rcases h with ⟨e, d, r, rfl, i, rfl⟩ | ⟨e, ps, i, rfl⟩ | ⟨e, rfl⟩
  · exact ⟨rfl, by simp only [PyData.depth]; omega⟩
  · refine ⟨by simp only [PyData.canLay0, lay_prs], ?_⟩
    have := depth_prs ps
    simp only [PyData.depth]; omega
  · refine ⟨by simp only [PyData.canLay0, lay_rows rows g], ?_⟩
    have := depth_rows rows
    simp only [PyData.depth]; omega
theorem okt_told : Okt "told" := by unfold Okt; decide +kernel
theorem okt_ref : Okt "refused" := by unfold Okt; decide +kernel
theorem lay_told {D : PyData} (h : D.canLay0 = true ∧ D.depth ≤ 3) : (toldD D).canLay0 = true := by
  unfold toldD
  simp only [PyData.canLay0, PyData.canLayAll0, okt_told.ok, h.1, Bool.and_true]
theorem shaped_told {D : PyData} (h : D.canLay0 = true ∧ D.depth ≤ 3) : SeqAt.shaped (toldD D) = true := by
  unfold SeqAt.shaped
  rw [Bool.and_eq_true_iff]
  refine ⟨lay_told h, ?_⟩
  have := h.2
  unfold toldD
  simp only [PyData.depth, PyData.depthAll]
  exact decide_eq_true (by omega)
theorem eqv_told {D : PyData} (h : D.canLay0 = true ∧ D.depth ≤ 3) : PyData.eqv (toldD D) (toldD D) = true := PySem.SeqAt.eqv_refl _ (lay_told h)
theorem lay_ref {wd : Str} (h : Okt wd) : (refD wd).canLay0 = true := by
  unfold refD
  simp only [PyData.canLay0, PyData.canLayAll0, okt_ref.ok, h.ok, Bool.and_true]
theorem shaped_ref {wd : Str} (h : Okt wd) : SeqAt.shaped (refD wd) = true := by
  unfold SeqAt.shaped
  rw [Bool.and_eq_true_iff]
  refine ⟨lay_ref h, ?_⟩
  unfold refD
  simp only [PyData.depth, PyData.depthAll]
  exact decide_eq_true (by omega)
theorem eqv_ref {wd : Str} (h : Okt wd) : PyData.eqv (refD wd) (refD wd) = true := PySem.SeqAt.eqv_refl _ (lay_ref h)
section
variable {P : Program} {w : World} {K : PySem.W.Frag} {mg : Str → Option Value} {base : Heap} {t : Ad}
def FirstBadA (t : Ad) (way : Int) (tn kd : Str) (dv kn : V) (m : Nat) (C : Addr) : Prop := (way = 0 ∧ FirstBadW t tn kd dv kn m C) ∨ (way = 1 ∧ FirstBadQ t tn kd kn m C) ∨ (way = 2 ∧ BadN m kn ∧ C = t.C_NoBook)
def ToldAt (H : Hp) (p : Addr) (way : Int) (tn kd : Str) (dv : V) (rows : List CRow) : Prop :=
  (way = 0 ∧ ∃ d r, dv = .int d ∧ IsWorth rows tn kd d r ∧ H p = some (.tup [.str "told", .int r])) ∨ (way = 1 ∧ ∃ L ps, LPrs H L ps ∧ IsTurns rows tn kd ps ∧ H p = some (.tup [.str "told", .ref L])) ∨ (way = 2 ∧ ∃ L, LRows H L rows ∧ H p = some (.tup [.str "told", .ref L]))
theorem ToldAt.same {H H' : Hp} {p : Addr} {way : Int} {tn kd : Str} {dv : V} {rows : List CRow} (h : ToldAt H p way tn kd dv rows) (s : Same H H') : ToldAt H' p way tn kd dv rows := by
  rcases h with ⟨e, d, r, e1, i, h⟩ | ⟨e, L, ps, l, i, h⟩ | ⟨e, L, l, h⟩
  · exact .inl ⟨e, d, r, e1, i, s _ _ h⟩
  · exact .inr (.inl ⟨e, L, ps, l.same s, i, s _ _ h⟩)
  · exact .inr (.inr ⟨e, L, l.same s, s _ _ h⟩)
theorem ToldAt.dp {H : Hp} {p : Addr} {way : Int} {tn kd : Str} {dv : V} {rows : List CRow} (h : ToldAt H p way tn kd dv rows) : ∃ D, AnsIs way tn kd dv rows D ∧ Dp K H (.ref p) (toldD D) := by
  rcases h with ⟨e, d, r, e1, i, h⟩ | ⟨e, L, ps, l, i, h⟩ | ⟨e, L, l, h⟩
  · exact ⟨_, .inl ⟨e, d, r, e1, i, rfl⟩, .tup (SqT.of h) (.cons (.str _) (.cons (.int _) .nil))⟩
  · exact ⟨_, .inr (.inl ⟨e, ps, i, rfl⟩), .tup (SqT.of h) (.cons (.str _) (.cons l.dp .nil))⟩
  · obtain ⟨rs, h1, ra⟩ := l
    exact ⟨_, .inr (.inr ⟨e, rfl⟩), .tup (SqT.of h) (.cons (.str _) (.cons (.lst (SqL.of h1) (dp_rowsN _ _ ra)) .nil))⟩
def RefAt (H : Hp) (p : Addr) (wd : Str) : Prop := ∃ lw, H p = some (.tup [.str "refused", .ref lw]) ∧ H lw = some (.lst [.str wd])
theorem RefAt.same {H H' : Hp} {p : Addr} {wd : Str} (h : RefAt H p wd) (s : Same H H') : RefAt H' p wd := let ⟨lw, h1, h2⟩ := h; ⟨lw, s _ _ h1, s _ _ h2⟩
theorem RefAt.dp {H : Hp} {p : Addr} {wd : Str} (h : RefAt H p wd) : Dp K H (.ref p) (refD wd) := let ⟨lw, h1, h2⟩ := h; .tup (SqT.of h1) (.cons (.str _) (.cons (.lst (SqL.of h2) (.cons (.str _) .nil)) .nil))
def spAsked (t : Ad) : Sp := fun vs H Q _ => ∃ (x L pr : Addr) (way : Int) (tn kd : Str) (dv kn : V) (rows : List CRow), vs = [.ref x, .int way, .ref pr] ∧ 0 ≤ way ∧ way ≤ 2 ∧ H pr = some (.lst [.str tn, .str kd, dv, kn]) ∧ CallsAt t.C_Calls H x L rows ∧ tn.length ≤ 1000 ∧ kd.length ≤ 1000 ∧ rows.length ≤ 60 ∧
  ((∃ d m : Int, dv = .int d ∧ kn = .int m ∧ nameOk tn = true ∧ nameOk kd = true ∧ 0 ≤ d ∧ d ≤ 9999 ∧ 0 ≤ m ∧ m ≤ rows.length ∧ ∀ p H', ToldAt H' p way tn kd dv (rows.take m.toNat) → Same H H' → Q (.ref p) H') ∨
   (∃ C wd, FirstBadA t way tn kd dv kn rows.length C ∧ WordOf t C wd ∧ ∀ p H', RefAt H' p wd → Same H H' → Q (.ref p) H'))
theorem ok_asked (T : Env K mg t) : FnOk P w K mg base CX0 6 t.a_l_asked t.fd_l_asked ["_law_calls", "_law_way", "_law_parts"] (spAsked t) := by
  have G_Calls_worth : FnOk P w K mg base (CX1 P w) 5 t.a_Calls_worth t.fd_Calls_worth ["self", "town", "kind", "day", "known"] _ := or1 (lift1 (ok_worth T)) (ok_worthR T)
  have G_Calls_turns : FnOk P w K mg base (CX1 P w) 5 t.a_Calls_turns t.fd_Calls_turns ["self", "town", "kind", "known"] _ := or1 (lift1 (ok_turns T)) (ok_turnsR T)
  have G_Calls_tellings : FnOk P w K mg base (CX1 P w) 3 t.a_Calls_tellings t.fd_Calls_tellings ["self", "known"] _ := or1 (lift1 (ok_tellings T)) (ok_tellingsR T)
  have G_l_named : FnOk P w K mg base CX0 1 t.a_l_named t.fd_l_named ["_law_e"] (spNamedA t) := ok_named T
  refine T.f_l_asked.okQ sc_l_asked (fun vs H Q E h => ?_) (fun cdv A outer s H vs Q E hr h => ?_)
  · obtain ⟨x, L, pr, way, tn, kd, dv, kn, rows, rfl, _⟩ := h
    rfl
  · obtain ⟨x, L, pr, way, tn, kd, dv, kn, rows, rfl, w0, w1, hpr, c, lt, lk, hl, h⟩ := h
    have hr_Calls_worth := hr
    have hr_Calls_turns := hr
    have hr_Calls_tellings : Room 3 _ := hr.mono (by decide)
    have hr_l_named : Room 1 _ := hr.mono (by decide)
    refine ⟨_, (q_pss_cons (q_ps_asg (q_pe_tup (q_pa_cons q_pe_non (q_pa_cons q_pe_non q_pa_nil star_Constant) star_Constant)) (q_pg_tup (by rfl) (q_pgs_cons (q_pg_name (i := 3) sc_l_asked.nd rfl (by first | exact Or.inl rfl | exact Or.inr (Or.inl rfl) | exact Or.inr rfl)) (q_pgs_cons (q_pg_name (i := 4) sc_l_asked.nd rfl (by first | exact Or.inl rfl | exact Or.inr (Or.inl rfl) | exact Or.inr rfl)) q_pgs_nil))))
      (q_pss_cons (q_ps_tryAs (i := 5) sc_l_asked.nd rfl rfl (by rfl) T.mg_CoinError (qsx_if (q_pt_cmpR op_eq (q_pv 1) q_pe_int (nomark _)) (qsx_set (i := 4) sc_l_asked.nd rfl (by first | exact Or.inl rfl | exact Or.inr (Or.inl rfl) | exact Or.inr rfl) (qx_meth (q_pv 0) T.cl_Calls T.m_Calls_worth G_Calls_worth hr_Calls_worth T.b_Calls_worth .nil (q_pa_cons (q_pe_ix ix_list (q_pv 2) q_pe_int (fun _ _ => rfl)) (q_pa_cons (q_pe_ix ix_list (q_pv 2) q_pe_int (fun _ _ => rfl)) (q_pa_cons (q_pe_ix ix_list (q_pv 2) q_pe_int (fun _ _ => rfl)) (q_pa_cons (q_pe_ix ix_list (q_pv 2) q_pe_int (fun _ _ => rfl)) q_pa_nil star_Subscript) star_Subscript) star_Subscript) star_Subscript))) (qsx_if (q_pt_cmpR op_eq (q_pv 1) q_pe_int (nomark _)) (qsx_set (i := 4) sc_l_asked.nd rfl (by first | exact Or.inl rfl | exact Or.inr (Or.inl rfl) | exact Or.inr rfl) (qx_meth (q_pv 0) T.cl_Calls T.m_Calls_turns G_Calls_turns hr_Calls_turns T.b_Calls_turns .nil (q_pa_cons (q_pe_ix ix_list (q_pv 2) q_pe_int (fun _ _ => rfl)) (q_pa_cons (q_pe_ix ix_list (q_pv 2) q_pe_int (fun _ _ => rfl)) (q_pa_cons (q_pe_ix ix_list (q_pv 2) q_pe_int (fun _ _ => rfl)) q_pa_nil star_Subscript) star_Subscript) star_Subscript))) (qsx_set (i := 4) sc_l_asked.nd rfl (by first | exact Or.inl rfl | exact Or.inr (Or.inl rfl) | exact Or.inr rfl) (qx_meth (q_pv 0) T.cl_Calls T.m_Calls_tellings G_Calls_tellings hr_Calls_tellings T.b_Calls_tellings .nil (q_pa_cons (q_pe_ix ix_list (q_pv 2) q_pe_int (fun _ _ => rfl)) q_pa_nil star_Subscript))))) (fun _ => (q_pss_one (q_ps_set (i := 3) sc_l_asked.nd rfl (by first | exact Or.inl rfl | exact Or.inr (Or.inl rfl) | exact Or.inr rfl) (q_pv 5)))))
      (q_pss_cons (q_ps_if (q_pt_cmpR op_notN (q_pv 3) q_pe_non (nomark _)) (q_pss_one (q_ps_ret (q_pe_tup (q_pa_cons q_pe_str (q_pa_cons (q_pe_call G_l_named hr_l_named (by rfl) T.mg_l_named T.kp_l_named T.b_l_named .nil pass0 (q_pa_cons (q_pv 3) q_pa_nil star_Name)) q_pa_nil star_Call) star_Constant)))) q_pss_nil)
      (q_pss_one (q_ps_ret (q_pe_tup (q_pa_cons q_pe_str (q_pa_cons (q_pv 4) q_pa_nil star_Name) star_Constant))))))), ?_⟩
    refine ⟨(by show 2 ≤ sizeLine; decide), fun tp htp => ?_⟩
    have st := same_new (o := .tup [V.non, V.non]) htp
    refine ⟨tp, _, rfl, SqT.of upd_same, rfl, _, _, rfl, _, _, rfl, rfl, ?_⟩
    have c := c.same st
    have hpr := st _ _ hpr
    obtain ⟨dx, rs, hx, _, _⟩ := id c
    have w3 : way = 0 ∨ way = 1 ∨ way = 2 := by omega
    rcases h with ⟨d, m, rfl, rfl, nt, nk, d0, d1, m0, m1, q⟩ | ⟨C, wd, fb, wo, q⟩
    · rcases w3 with rfl | rfl | rfl
      · refine ⟨_, rfl, rfl, _, rfl, iteT ⟨_, rfl, x, dx, _, rfl, hx, rfl, _, rfl, pr, _, 0, _, rfl, rfl, SqL.of hpr, at_of (j := 0) (by decide) rfl, _, rfl, pr, _, 1, _, rfl, rfl, SqL.of hpr, at_of (j := 1) (by decide) rfl, _, rfl, pr, _, 2, _, rfl, rfl, SqL.of hpr, at_of (j := 2) (by decide) rfl, _, rfl, pr, _, 3, _, rfl, rfl, SqL.of hpr, at_of (j := 3) (by decide) rfl, .inl ⟨x, L, tn, kd, d, .int m, rows, rows.take m.toNat, rfl, c, .inr ⟨m, rfl, m0, m1, rfl⟩, by omega, nt, nk, d0, d1, fun r H1 iw s1 => ?_⟩⟩⟩
        refine ⟨_, rfl, rfl, _, rfl, iteF ?_⟩
        refine ⟨_, rfl, (by show 2 ≤ sizeLine; decide), fun p hp => ?_⟩
        exact q p _ (.inl ⟨rfl, d, r, rfl, iw, upd_same⟩) ((st.trans s1).trans (same_new hp))
      · refine ⟨_, rfl, rfl, _, rfl, iteF ⟨_, rfl, rfl, _, rfl, iteT ⟨_, rfl, x, dx, _, rfl, hx, rfl, _, rfl, pr, _, 0, _, rfl, rfl, SqL.of hpr, at_of (j := 0) (by decide) rfl, _, rfl, pr, _, 1, _, rfl, rfl, SqL.of hpr, at_of (j := 1) (by decide) rfl, _, rfl, pr, _, 3, _, rfl, rfl, SqL.of hpr, at_of (j := 3) (by decide) rfl, .inl ⟨x, L, tn, kd, .int m, rows, rows.take m.toNat, rfl, c, .inr ⟨m, rfl, m0, m1, rfl⟩, hl, nt, nk, fun L' ps H1 lps it _ _ s1 => ?_⟩⟩⟩⟩
        refine ⟨_, rfl, rfl, _, rfl, iteF ?_⟩
        refine ⟨_, rfl, (by show 2 ≤ sizeLine; decide), fun p hp => ?_⟩
        exact q p _ (.inr (.inl ⟨rfl, L', ps, lps.same (same_new hp), it, upd_same⟩)) ((st.trans s1).trans (same_new hp))
      · refine ⟨_, rfl, rfl, _, rfl, iteF ⟨_, rfl, rfl, _, rfl, iteF ⟨_, rfl, x, dx, _, rfl, hx, rfl, _, rfl, pr, _, 3, _, rfl, rfl, SqL.of hpr, at_of (j := 3) (by decide) rfl, .inl ⟨x, L, .int m, rows, rows.take m.toNat, rfl, c, .inr ⟨m, rfl, m0, m1, rfl⟩, fun L' rs' H1 h1 ra1 _ s1 => ?_⟩⟩⟩⟩
        refine ⟨_, rfl, rfl, _, rfl, iteF ?_⟩
        refine ⟨_, rfl, (by show 2 ≤ sizeLine; decide), fun p hp => ?_⟩
        exact q p _ (.inr (.inr ⟨rfl, L', ⟨rs', same_new hp _ _ h1, ra1.mono (.same (same_new hp))⟩, upd_same⟩)) ((st.trans s1).trans (same_new hp))
    · have ca : PySem.W.exmOne K (.ref C) (.ref t.C_CoinError) = some true := by
        rcases wo with ⟨rfl, _⟩ | ⟨rfl, _⟩ | ⟨rfl, _⟩
        · exact T.ca_NoName_CoinError
        · exact T.ca_NoDay_CoinError
        · exact T.ca_NoBook_CoinError
      rcases w3 with rfl | rfl | rfl
      · have fb : FirstBadW t tn kd dv kn rows.length C := by
          rcases fb with ⟨_, h⟩ | ⟨e, _⟩ | ⟨e, _⟩
          · exact h
          · omega
          · omega
        refine ⟨_, rfl, rfl, _, rfl, iteT ⟨_, rfl, x, dx, _, rfl, hx, rfl, _, rfl, pr, _, 0, _, rfl, rfl, SqL.of hpr, at_of (j := 0) (by decide) rfl, _, rfl, pr, _, 1, _, rfl, rfl, SqL.of hpr, at_of (j := 1) (by decide) rfl, _, rfl, pr, _, 2, _, rfl, rfl, SqL.of hpr, at_of (j := 2) (by decide) rfl, _, rfl, pr, _, 3, _, rfl, rfl, SqL.of hpr, at_of (j := 3) (by decide) rfl, .inr ⟨x, L, tn, kd, dv, kn, rows, C, rfl, c, lt, lk, fb, fun H1 s1 => ⟨C, rfl, ca, fun ea hea => ?_⟩⟩⟩⟩
        refine ⟨_, rfl, ?_⟩
        refine ⟨_, rfl, rfl, _, rfl, iteT ?_⟩
        have s2 := s1.trans (same_new (o := .ext (excAt ea C)) hea)
        refine ⟨_, rfl, C, wd, wo, ea, rfl, upd_same, fun lw H3 hlw s3 => ⟨(by show 2 ≤ sizeLine; decide), fun p hp => ?_⟩⟩
        have s4 := same_new (o := .tup [V.str "refused", V.ref lw]) hp
        exact q p _ ⟨lw, upd_same, s4 _ _ hlw⟩ (st.trans ((s2.trans s3).trans s4))
      · have fb : FirstBadQ t tn kd kn rows.length C := by
          rcases fb with ⟨e, _⟩ | ⟨_, h⟩ | ⟨e, _⟩
          · omega
          · exact h
          · omega
        refine ⟨_, rfl, rfl, _, rfl, iteF ⟨_, rfl, rfl, _, rfl, iteT ⟨_, rfl, x, dx, _, rfl, hx, rfl, _, rfl, pr, _, 0, _, rfl, rfl, SqL.of hpr, at_of (j := 0) (by decide) rfl, _, rfl, pr, _, 1, _, rfl, rfl, SqL.of hpr, at_of (j := 1) (by decide) rfl, _, rfl, pr, _, 3, _, rfl, rfl, SqL.of hpr, at_of (j := 3) (by decide) rfl, .inr ⟨x, L, tn, kd, kn, rows, C, rfl, c, lt, lk, fb, fun H1 s1 => ⟨C, rfl, ca, fun ea hea => ?_⟩⟩⟩⟩⟩
        refine ⟨_, rfl, ?_⟩
        refine ⟨_, rfl, rfl, _, rfl, iteT ?_⟩
        have s2 := s1.trans (same_new (o := .ext (excAt ea C)) hea)
        refine ⟨_, rfl, C, wd, wo, ea, rfl, upd_same, fun lw H3 hlw s3 => ⟨(by show 2 ≤ sizeLine; decide), fun p hp => ?_⟩⟩
        have s4 := same_new (o := .tup [V.str "refused", V.ref lw]) hp
        exact q p _ ⟨lw, upd_same, s4 _ _ hlw⟩ (st.trans ((s2.trans s3).trans s4))
      · have fb : BadN rows.length kn ∧ C = t.C_NoBook := by
          rcases fb with ⟨e, _⟩ | ⟨e, _⟩ | ⟨_, h⟩
          · omega
          · omega
          · exact h
        obtain ⟨fb2, rfl⟩ := fb
        refine ⟨_, rfl, rfl, _, rfl, iteF ⟨_, rfl, rfl, _, rfl, iteF ⟨_, rfl, x, dx, _, rfl, hx, rfl, _, rfl, pr, _, 3, _, rfl, rfl, SqL.of hpr, at_of (j := 3) (by decide) rfl, .inr ⟨x, L, kn, rows, rfl, c, fb2, fun H1 s1 => ⟨_, rfl, ca, fun ea hea => ?_⟩⟩⟩⟩⟩
        refine ⟨_, rfl, ?_⟩
        refine ⟨_, rfl, rfl, _, rfl, iteT ?_⟩
        have s2 := s1.trans (same_new (o := .ext (excAt ea t.C_NoBook)) hea)
        refine ⟨_, rfl, _, wd, wo, ea, rfl, upd_same, fun lw H3 hlw s3 => ⟨(by show 2 ≤ sizeLine; decide), fun p hp => ?_⟩⟩
        have s4 := same_new (o := .tup [V.str "refused", V.ref lw]) hp
        exact q p _ ⟨lw, upd_same, s4 _ _ hlw⟩ (st.trans ((s2.trans s3).trans s4))
end
end Ck
set_option Elab.async false
set_option linter.all false
set_option maxRecDepth 100000
set_option maxHeartbeats 4000000
namespace Ck
open PySem L2
section
variable {P : Program} {w : World} {K : PySem.W.Frag} {mg : Str → Option Value} {base : Heap} {t : Ad}
def spAnswer : Sp := fun vs H Q _ => ∃ (pr Lr : Addr) (way : Int) (tn kd : Str) (d m : Int) (rows : List CRow), vs = [.int way, .ref pr, .ref Lr] ∧ 0 ≤ way ∧ way ≤ 2 ∧ H pr = some (.lst [.str tn, .str kd, .int d, .int m]) ∧ LRows H Lr rows ∧ rows.length ≤ 60 ∧ (∀ r ∈ rows, GoodRow r) ∧ nameOk tn = true ∧ nameOk kd = true ∧ 0 ≤ m ∧ m ≤ rows.length ∧
  ∀ p H', ToldAt H' p way tn kd (.int d) (rows.take m.toNat) → Same H H' → Q (.ref p) H'
theorem ok_answer (T : Env K mg t) : FnOk P w K mg base CX0 3 t.a_l_answer t.fd_l_answer ["_law_way", "_law_parts", "_law_rows"] spAnswer := by
  have G_l_due : FnOk P w K mg base CX0 1 t.a_l_due t.fd_l_due ["_law_rows", "_law_town", "_law_kind", "_law_day_here"] spDue := ok_due T
  have G_l_turns : FnOk P w K mg base CX0 2 t.a_l_turns t.fd_l_turns ["_law_rows", "_law_town", "_law_kind"] spLTurns := ok_lturns T
  refine T.f_l_answer.okQ sc_l_answer (fun vs H Q E h => ?_) (fun cdv A outer s H vs Q E hr h => ?_)
  · obtain ⟨pr, Lr, way, tn, kd, d, m, rows, rfl, _⟩ := h
    rfl
  · obtain ⟨pr, Lr, way, tn, kd, d, m, rows, rfl, w0, w1, hpr, lr, l60, good, nt, nk, m0, m1, q⟩ := h
    have hr_l_turns := hr
    have hr_l_due : Room 1 _ := hr.mono (by decide)
    refine ⟨_, (q_pss_cons (q_ps_set (i := 2) sc_l_answer.nd rfl (by first | exact Or.inl rfl | exact Or.inr (Or.inl rfl) | exact Or.inr rfl) (q_pe_slice sl_list (q_pv 2) q_po_none (q_po_some (q_pe_ix ix_list (q_pv 1) q_pe_int (fun _ _ => rfl)))))
      (q_pss_cons (q_ps_if (q_pt_cmpR op_eq (q_pv 0) q_pe_int (nomark _)) (q_pss_one (q_ps_ret (q_pe_tup (q_pa_cons q_pe_str (q_pa_cons (q_pe_call G_l_due hr_l_due (by rfl) T.mg_l_due T.kp_l_due T.b_l_due .nil pass0 (q_pa_cons (q_pv 2) (q_pa_cons (q_pe_ix ix_list (q_pv 1) q_pe_int (fun _ _ => rfl)) (q_pa_cons (q_pe_ix ix_list (q_pv 1) q_pe_int (fun _ _ => rfl)) (q_pa_cons (q_pe_ix ix_list (q_pv 1) q_pe_int (fun _ _ => rfl)) q_pa_nil star_Subscript) star_Subscript) star_Subscript) star_Name)) q_pa_nil star_Call) star_Constant)))) q_pss_nil)
      (q_pss_one (q_ps_ret (q_pe_tup (q_pa_cons q_pe_str (q_pa_cons (q_pe_ix ix_list (q_pe_lst (q_pa_cons (q_pe_call G_l_turns hr_l_turns (by rfl) T.mg_l_turns T.kp_l_turns T.b_l_turns .nil pass0 (q_pa_cons (q_pv 2) (q_pa_cons (q_pe_ix ix_list (q_pv 1) q_pe_int (fun _ _ => rfl)) (q_pa_cons (q_pe_ix ix_list (q_pv 1) q_pe_int (fun _ _ => rfl)) q_pa_nil star_Subscript) star_Subscript) star_Name)) (q_pa_cons (q_pv 2) q_pa_nil star_Name) star_Call)) (q_pe_op op_sub (q_pv 0) q_pe_int) (fun _ _ => rfl)) q_pa_nil star_Subscript) star_Constant)))))), ?_⟩
    obtain ⟨rs, hL, ra⟩ := id lr
    refine ⟨_, rfl, _, rfl, pr, _, 3, _, rfl, rfl, SqL.of hpr, at_of (j := 3) (by decide) rfl, m, rfl, Lr, _, rfl, SqL.of hL, fun c hc => ?_⟩
    rw [cut_take (by omega), ← List.map_take]
    have s1 := same_new (o := .lst ((rs.take m.toNat).map V.ref)) hc
    have f1 := new_at (o := .lst ((rs.take m.toNat).map V.ref)) hc
    have lr1 : LRows _ c (rows.take m.toNat) := ⟨rs.take m.toNat, f1, (ra.mono (.same s1)).take _⟩
    have g1 : ∀ r ∈ rows.take m.toNat, GoodRow r := fun r h => good r (List.mem_of_mem_take h)
    have l1 : (rows.take m.toNat).length ≤ 60 := by rw [List.length_take]; omega
    have hpr1 := s1 _ _ hpr
    have w3 : way = 0 ∨ way = 1 ∨ way = 2 := by omega
    rcases w3 with rfl | rfl | rfl
    · refine ⟨_, rfl, rfl, _, rfl, iteT ?_⟩
      refine ⟨_, rfl, _, rfl, pr, _, 0, _, rfl, rfl, SqL.of hpr1, at_of (j := 0) (by decide) rfl, _, rfl, pr, _, 1, _, rfl, rfl, SqL.of hpr1, at_of (j := 1) (by decide) rfl, _, rfl, pr, _, 2, _, rfl, rfl, SqL.of hpr1, at_of (j := 2) (by decide) rfl, c, tn, kd, d, _, rfl, lr1, by omega, g1, nt, nk, fun r H2 iw s2 => ⟨(by show 2 ≤ sizeLine; decide), fun p hp => ?_⟩⟩
      exact q p _ (.inl ⟨rfl, d, r, rfl, iw, upd_same⟩) ((s1.trans s2).trans (same_new hp))
    · refine ⟨_, rfl, rfl, _, rfl, iteF ?_⟩
      refine ⟨_, rfl, _, rfl, pr, _, 0, _, rfl, rfl, SqL.of hpr1, at_of (j := 0) (by decide) rfl, _, rfl, pr, _, 1, _, rfl, rfl, SqL.of hpr1, at_of (j := 1) (by decide) rfl, c, tn, kd, _, rfl, lr1, l1, g1, nt, nk, fun L' ps H2 lps it _ _ s2 => ?_⟩
      refine ⟨_, rfl, (by show 2 ≤ sizeLine; decide), fun l2 hl2 => ?_⟩
      have s3 := same_new (o := .lst [V.ref L', V.ref c]) hl2
      refine ⟨_, rfl, _, _, rfl, rfl, l2, _, _, _, rfl, rfl, SqL.of upd_same, at_of (j := 0) (by decide) rfl, (by show 2 ≤ sizeLine; decide), fun p hp => ?_⟩
      exact q p _ (.inr (.inl ⟨rfl, L', ps, (lps.same s3).same (same_new hp), it, upd_same⟩)) (((s1.trans s2).trans s3).trans (same_new hp))
    · refine ⟨_, rfl, rfl, _, rfl, iteF ?_⟩
      refine ⟨_, rfl, _, rfl, pr, _, 0, _, rfl, rfl, SqL.of hpr1, at_of (j := 0) (by decide) rfl, _, rfl, pr, _, 1, _, rfl, rfl, SqL.of hpr1, at_of (j := 1) (by decide) rfl, c, tn, kd, _, rfl, lr1, l1, g1, nt, nk, fun L' ps H2 lps it _ _ s2 => ?_⟩
      refine ⟨_, rfl, (by show 2 ≤ sizeLine; decide), fun l2 hl2 => ?_⟩
      have s3 := same_new (o := .lst [V.ref L', V.ref c]) hl2
      refine ⟨_, rfl, _, _, rfl, rfl, l2, _, _, _, rfl, rfl, SqL.of upd_same, at_of (j := 1) (by decide) rfl, (by show 2 ≤ sizeLine; decide), fun p hp => ?_⟩
      exact q p _ (.inr (.inr ⟨rfl, c, ((lr1.same s2).same s3).same (same_new hp), upd_same⟩)) (((s1.trans s2).trans s3).trans (same_new hp))
end
end Ck
set_option Elab.async false
set_option linter.all false
set_option maxRecDepth 100000
set_option maxHeartbeats 4000000
namespace Ck
open PySem L2
section
variable {P : Program} {w : World} {K : PySem.W.Frag} {mg : Str → Option Value} {base : Heap} {t : Ad}
abbrev bads : Str := "AZ09 -`{_\n"
theorem bads_not : ∀ c ∈ bads.cps.toList, c ∉ letters.cps.toList := by
  have all : bads.cps.toList.all (fun c => !decide (c ∈ letters.cps.toList)) = true := by decide +kernel
  intro c hc
  have := List.all_eq_true.mp all c hc
  simpa using this
theorem bads_len : bads.cps.toList.length = 10 := by decide +kernel
theorem cut9_len {z : Str} (h : 9 ≤ z.length) : (cutS z none (some 9)).length = 9 := by
  rw [str_len]
  unfold cutS
  rw [List.length_take, List.length_drop, ← str_len]
  have e1 : HT.sIx z.length 0 none = 0 := rfl
  have e2 : HT.sIx z.length z.length (some 9) = min (9 : Int).toNat z.length := by
    unfold HT.sIx
    dsimp only
    rw [if_neg (by omega)]
  rw [e1, e2]
  have : (9 : Int).toNat = 9 := rfl
  omega
theorem name_not {x : Str} {c : Nat} (hc : c ∈ bads.cps.toList) (h : c ∈ x.cps.toList) : nameOk x = false := by
  rw [Bool.eq_false_iff]
  intro z
  exact bads_not c hc ((nameOk_iff.mp z).2.2 c h)
def spBadName (K : PySem.W.Frag) : Sp := fun vs H Q _ => ∃ (d a : Addr) (ns : List Int) (y : Str), vs = [.ref d, .str y] ∧ DrawAt K H d a ns ∧ nameOk y = true ∧
  ∀ (x : Str) (H' : Hp), nameOk x = false → x.length ≤ 100 → DrawAt K H' d a ns → Keep d H H' → Q (.str x) H'
theorem ok_bname (T : Env K mg t) : FnOk P w K mg base CX0 3 t.a_l_bad_name t.fd_l_bad_name ["_law_draw", "_law_word_here"] (spBadName K) := by
  have G_l_next : FnOk P w K mg base CX0 2 t.a_l_next t.fd_l_next ["_law_draw", "_law_size"] (spNext K) := ok_next T
  refine T.f_l_bad_name.okQ sc_l_bad_name (fun vs H Q E h => ?_) (fun cdv A outer s H vs Q E hr h => ?_)
  · obtain ⟨d, a, ns, y, rfl, _⟩ := h
    rfl
  · obtain ⟨d, a, ns, y, rfl, D, ny, q⟩ := h
    have hr_l_next := hr
    refine ⟨_, (q_pss_cons (q_ps_par (i := 2) (j := 3) (by rfl) sc_l_bad_name.nd rfl rfl (by decide) rfl rfl (q_pa_cons (q_pe_call G_l_next hr_l_next (by rfl) T.mg_l_next T.kp_l_next T.b_l_next .nil pass0 (q_pa_cons (q_pv 0) (q_pa_cons q_pe_int q_pa_nil star_Constant) star_Name)) (q_pa_cons (q_pe_call G_l_next hr_l_next (by rfl) T.mg_l_next T.kp_l_next T.b_l_next .nil pass0 (q_pa_cons (q_pv 0) (q_pa_cons q_pe_int q_pa_nil star_Constant) star_Name)) q_pa_nil star_Call) star_Call) (by rfl))
      (q_pss_cons (q_ps_set (i := 4) sc_l_bad_name.nd rfl (by first | exact Or.inl rfl | exact Or.inr (Or.inl rfl) | exact Or.inr rfl) (q_pe_ix ix_str q_pe_str (q_pe_call G_l_next hr_l_next (by rfl) T.mg_l_next T.kp_l_next T.b_l_next .nil pass0 (q_pa_cons (q_pv 0) (q_pa_cons q_pe_int q_pa_nil star_Constant) star_Name)) (fun _ _ => rfl)))
      (q_pss_cons (q_ps_if (q_pt_cmpR op_lt (q_pv 2) q_pe_int (nomark _)) (q_pss_one (q_ps_ret (q_pe_ix ix_list (q_pe_lst (q_pa_cons q_pe_str (q_pa_cons (q_pe_slice sl_str (q_pe_op op_rep_strN (q_pv 1) q_pe_int) q_po_none (q_po_some q_pe_int)) q_pa_nil star_Subscript) star_Constant)) (q_pv 2) (fun _ _ => rfl)))) q_pss_nil)
      (q_pss_cons (q_ps_set (i := 1) sc_l_bad_name.nd rfl (by first | exact Or.inl rfl | exact Or.inr (Or.inl rfl) | exact Or.inr rfl) (q_pe_slice sl_str (q_pv 1) q_po_none (q_po_some q_pe_int)))
      (q_pss_one (q_ps_ret (q_pe_op op_add_str (q_pe_op op_add_str (q_pe_slice sl_str (q_pv 1) q_po_none (q_po_some (q_pv 3))) (q_pv 4)) (q_pe_slice sl_str (q_pv 1) (q_po_some (q_pv 3)) q_po_none)))))))), ?_⟩
    obtain ⟨y0, y1, _⟩ := nameOk_iff.mp ny
    have yz : y.length ≤ sizeLine := Nat.le_of_lt (small1000 (by omega))
    refine ⟨_, rfl, d, a, ns, _, rfl, D, by decide, fun wy H1 a1 b1 D1 k1 => ?_⟩
    refine ⟨_, rfl, d, a, ns, _, rfl, D1, by decide, fun at_ H2 a2 b2 D2 k2 => ⟨_, _, rfl, ?_⟩⟩
    refine ⟨_, rfl, d, a, ns, _, rfl, D2, by decide, fun r H3 a3 b3 D3 k3 => ?_⟩
    obtain ⟨c, hc, hm⟩ := at_bound (xs := bads.cps.toList) a3 (by rw [bads_len]; exact b3)
    have k13 := (k1.trans k2).trans k3
    refine ⟨bads, r, c, rfl, rfl, by decide, hc, ?_⟩
    refine ⟨_, rfl, _, _, rfl, rfl, _, rfl, ?_⟩
    refine ite2 (fun c1 => ?_) (fun c1 => ?_)
    · have c1 : wy < 2 := of_decide_eq_true c1
      refine ⟨_, rfl, y, 9, rfl, rfl, by decide, by decide, y0, by omega, fun z lz => ?_⟩
      have l9 : 9 ≤ z.length := by rw [lz]; omega
      have zz : z.length ≤ sizeLine := Nat.le_of_lt (small1000 (by rw [lz]; omega))
      refine ⟨9, rfl, z, rfl, zz, (by show 2 ≤ sizeLine; decide), fun Lq hLq => ?_⟩
      have s4 := same_new (o := .lst [V.str "", V.str (cutS z none (some 9))]) hLq
      obtain ⟨v, hv, hv2⟩ := at_bound (xs := [V.str "", V.str (cutS z none (some 9))]) a1 c1
      refine ⟨_, rfl, Lq, _, wy, v, rfl, rfl, SqL.of upd_same, hv, ?_⟩
      simp only [List.mem_cons, List.not_mem_nil, or_false] at hv2
      rcases hv2 with rfl | rfl
      · exact q "" _ (by decide +kernel) (by decide) (D3.same s4) (k13.trans (.of s4))
      · have cl := cut9_len l9
        refine q _ _ ?_ (by omega) (D3.same s4) (k13.trans (.of s4))
        rw [Bool.eq_false_iff]
        intro zz
        have := (nameOk_iff.mp zz).2.1
        omega
    · refine ⟨_, rfl, 7, rfl, y, rfl, yz, ?_⟩
      obtain ⟨u, eu⟩ : ∃ u : Str, u = cutS y none (some 7) := ⟨_, rfl⟩
      have lu : (cutS y none (some 7)).length ≤ y.length := len_cut y none (some 7)
      rw [← eu] at lu
      have uz : u.length ≤ sizeLine := Nat.le_of_lt (small1000 (by omega))
      have c1l := len_cut u none (some at_)
      have c2l := len_cut u (some at_) none
      have l1 : (sgn c).length = 1 := rfl
      refine ⟨_, rfl, _, rfl, at_, rfl, u, by rw [eu], uz, _, rfl, _, _, rfl, rfl, Nat.le_of_lt (small1000 (by rw [l1]; omega)), ?_⟩
      refine ⟨_, rfl, _, rfl, at_, rfl, u, by rw [eu], uz, _, _, rfl, rfl, Nat.le_of_lt (small1000 (by rw [len_app, l1]; omega)), ?_⟩
      refine q _ _ (name_not hm ?_) (by rw [len_app, len_app, l1]; omega) D3 k13
      rw [tl_app, tl_app]
      exact List.mem_append_left _ (List.mem_append_right _ (by simp))
def spBadNum (K : PySem.W.Frag) : Sp := fun vs H Q _ => ∃ (d a : Addr) (ns : List Int) (m : Int), vs = [.ref d, .int m] ∧ DrawAt K H d a ns ∧ 0 ≤ m ∧ m ≤ 1000000 ∧
  ∀ (v : V) (H' : Hp), BadN m v → DrawAt K H' d a ns → Keep d H H' → Q v H'
theorem p30 : (10 : Int) ^ (30 : Int).toNat = 1000000000000000000000000000000 := by decide
theorem ok_bnum (T : Env K mg t) : FnOk P w K mg base CX0 3 t.a_l_bad_number t.fd_l_bad_number ["_law_draw", "_law_most"] (spBadNum K) := by
  have G_l_next : FnOk P w K mg base CX0 2 t.a_l_next t.fd_l_next ["_law_draw", "_law_size"] (spNext K) := ok_next T
  refine T.f_l_bad_number.okQ sc_l_bad_number (fun vs H Q E h => ?_) (fun cdv A outer s H vs Q E hr h => ?_)
  · obtain ⟨d, a, ns, m, rfl, _⟩ := h
    rfl
  · obtain ⟨d, a, ns, m, rfl, D, m0, m1, q⟩ := h
    have hr_l_next := hr
    refine ⟨_, (q_pss_cons (q_ps_set (i := 2) sc_l_bad_number.nd rfl (by first | exact Or.inl rfl | exact Or.inr (Or.inl rfl) | exact Or.inr rfl) (q_pe_call G_l_next hr_l_next (by rfl) T.mg_l_next T.kp_l_next T.b_l_next .nil pass0 (q_pa_cons (q_pv 0) (q_pa_cons q_pe_int q_pa_nil star_Constant) star_Name)))
      (q_pss_cons (q_ps_set (i := 3) sc_l_bad_number.nd rfl (by first | exact Or.inl rfl | exact Or.inr (Or.inl rfl) | exact Or.inr rfl) (q_pe_lst (q_pa_cons (q_pe_un un_neg q_pe_int) (q_pa_cons (q_pe_op op_add (q_pv 1) q_pe_int) (q_pa_cons q_pe_bl (q_pa_cons q_pe_bl (q_pa_cons (q_pe_op op_sub (q_pe_un un_neg q_pe_int) (q_pv 2)) (q_pa_cons (q_pe_op op_add (q_pe_op op_add (q_pv 1) q_pe_int) (q_pv 2)) (q_pa_cons (q_pe_op op_add (q_pe_op op_pow q_pe_int q_pe_int) (q_pv 2)) q_pa_nil star_BinOp) star_BinOp) star_BinOp) star_Constant) star_Constant) star_BinOp) star_UnaryOp)))
      (q_pss_one (q_ps_ret (q_pe_ix ix_list (q_pv 3) (q_pe_call G_l_next hr_l_next (by rfl) T.mg_l_next T.kp_l_next T.b_l_next .nil pass0 (q_pa_cons (q_pv 0) (q_pa_cons q_pe_int q_pa_nil star_Constant) star_Name)) (fun _ _ => rfl)))))), ?_⟩
    refine ⟨_, rfl, d, a, ns, _, rfl, D, by decide, fun f H1 f0 f1 D1 k1 => ?_⟩
    refine ⟨_, rfl, _, rfl, _, _, rfl, rfl, _, rfl, _, rfl, _, _, rfl, rfl, _, rfl, _, _, rfl, rfl, _, rfl, _, _, rfl, rfl, _, _, rfl, rfl, ⟨by decide, by decide, by decide⟩, _, rfl, _, _, rfl, rfl, (by show 7 ≤ sizeLine; decide), fun Ls hLs => ?_⟩
    have s2 := same_new (o := .lst [V.int (-1), V.int (m + 1), V.bl true, V.bl false, V.int (-1 - f), V.int (m + 1 + f), V.int ((10 : Int) ^ (30 : Int).toNat + f)]) hLs
    have f2 := new_at (o := .lst [V.int (-1), V.int (m + 1), V.bl true, V.bl false, V.int (-1 - f), V.int (m + 1 + f), V.int ((10 : Int) ^ (30 : Int).toNat + f)]) hLs
    refine ⟨_, rfl, _, rfl, d, a, ns, _, rfl, D1.same s2, by decide, fun r H3 r0 r1 D3 k3 => ?_⟩
    obtain ⟨v, hv, hm⟩ := at_bound (xs := [V.int (-1), V.int (m + 1), V.bl true, V.bl false, V.int (-1 - f), V.int (m + 1 + f), V.int ((10 : Int) ^ (30 : Int).toNat + f)]) r0 r1
    refine ⟨Ls, _, r, v, rfl, rfl, SqL.of (k3 _ _ f2 (D1.ne hLs)), hv, ?_⟩
    refine q v H3 ?_ D3 ((k1.trans (.of s2)).trans k3)
    simp only [List.mem_cons, List.not_mem_nil, or_false, p30] at hm
    rcases hm with rfl | rfl | rfl | rfl | rfl | rfl | rfl
    · exact .inl ⟨_, rfl, by omega⟩
    · exact .inl ⟨_, rfl, by omega⟩
    · exact .inr ⟨_, rfl⟩
    · exact .inr ⟨_, rfl⟩
    · exact .inl ⟨_, rfl, by omega⟩
    · exact .inl ⟨_, rfl, by omega⟩
    · exact .inl ⟨_, rfl, by omega⟩
theorem GoodRow.okt {r : CRow} (g : GoodRow r) : Okt r.1 ∧ Okt r.2.1 := ⟨nameOk.okt g.1, nameOk.okt g.2.1⟩
end
end Ck
set_option Elab.async false
set_option linter.all false
set_option maxRecDepth 100000
set_option maxHeartbeats 4000000
namespace Ck
open PySem L2
section
variable {P : Program} {w : World} {K : PySem.W.Frag} {mg : Str → Option Value} {base : Heap} {t : Ad}
abbrev pw2 : List Int := [1, 2, 4, 8]
def sp (b : Int) (k : Nat) : Bool := decide (b / pw2.getD k 1 % 2 = 1)
theorem four {i : Nat} (h : i < 4) : i = 0 ∨ i = 1 ∨ i = 2 ∨ i = 3 := by omega
theorem at4 {xs : List V} {i : Nat} (h : i < 4) (l : xs.length = 4) : atI xs (0 + (i : Int)) = some (xs.getD i .non) := by
  refine at_of (j := i) (by omega) ?_
  rw [List.getD_eq_getElem?_getD, List.getElem?_eq_getElem (by omega)]
  rfl
theorem pw2_at {i : Nat} (h : i < 4) : ([V.int 1, V.int 2, V.int 4, V.int 8] : List V).getD i .non = V.int (pw2.getD i 1) := by
  rcases four h with rfl | rfl | rfl | rfl <;> rfl
theorem pw2_pos {i : Nat} (h : i < 4) : 0 < pw2.getD i 1 ∧ pw2.getD i 1 < 1073741824 := by
  rcases four h with rfl | rfl | rfl | rfl <;> decide
theorem sp_some {b : Int} (h0 : 1 ≤ b) (h1 : b ≤ 15) : sp b 0 = true ∨ sp b 1 = true ∨ sp b 2 = true ∨ sp b 3 = true := by
  have e0 : sp b 0 = decide (b / 1 % 2 = 1) := rfl
  have e1 : sp b 1 = decide (b / 2 % 2 = 1) := rfl
  have e2 : sp b 2 = decide (b / 4 % 2 = 1) := rfl
  have e3 : sp b 3 = decide (b / 8 % 2 = 1) := rfl
  rw [e0, e1, e2, e3]
  simp only [decide_eq_true_eq]
  omega
theorem flat_nats (l : List Nat) : (l.map fun (k : Nat) => V.int (k : Int)).all flatV = true := by
  rw [List.all_map, List.all_eq_true]
  intro x _
  rfl
theorem inV_nats (i : Nat) (l : List Nat) : inV (.int (0 + (i : Int))) (l.map fun (k : Nat) => V.int (k : Int)) = decide (i ∈ l) := by
  unfold inV
  induction l with
  | nil => rfl
  | cons y r ih =>
    rw [List.map_cons, List.any_cons, ih, Bool.eq_iff_iff]
    have e : eqV (V.int (y : Int)) (V.int (0 + (i : Int))) = ((y : Int) == 0 + (i : Int)) := rfl
    rw [e, Bool.or_eq_true, beq_iff_eq, decide_eq_true_eq, decide_eq_true_eq, List.mem_cons]
    constructor
    · rintro (z | z)
      · exact .inl (by omega)
      · exact .inr z
    · rintro (z | z)
      · exact .inl (by omega)
      · exact .inr z
def sel (way : Int) : List Nat := if way = 0 then [0, 1, 2, 3] else if way = 1 then [0, 1, 3] else [3]
def spl (way b : Int) : List Nat := if ((sel way).filter (sp b)).isEmpty then [3] else (sel way).filter (sp b)
def wds4 : List Str := ["name", "name", "day", "book"]
def tv (S : List Nat) (bv gv : List V) (k : Nat) : V := if k ∈ S then bv.getD k .non else gv.getD k .non
def tvS (S : List Nat) (k : Nat) (x y : Str) : Str := if k ∈ S then x else y
theorem first_bad {t : Ad} {way b : Int} {x1 x2 tn kd : Str} {v3 v4 : V} {d m : Int} {n : Nat} (w3 : way = 0 ∨ way = 1 ∨ way = 2) (hb0 : 1 ≤ b) (hb1 : b ≤ 15) (n1 : nameOk x1 = false) (n2 : nameOk x2 = false) (b3 : BadN 9999 v3) (b4 : BadN n v4) (g1 : nameOk tn = true) (g2 : nameOk kd = true) (d0 : 0 ≤ d) (d1 : d ≤ 9999) :
    ∃ (C : Addr) (s0 : Nat) (r : List Nat), spl way b = s0 :: r ∧ s0 < 4 ∧ WordOf t C (wds4.getD s0 Str.empty) ∧ FirstBadA t way (tvS (spl way b) 0 x1 tn) (tvS (spl way b) 1 x2 kd) (if 2 ∈ spl way b then v3 else .int d) (if 3 ∈ spl way b then v4 else .int m) n C := by
  have some := sp_some hb0 hb1
  rcases w3 with rfl | rfl | rfl
  · cases h0 : sp b 0 with
    | true =>
      refine ⟨t.C_NoName, 0, [1, 2, 3].filter (sp b), ?_, by decide, .inl ⟨rfl, rfl⟩, .inl ⟨rfl, .inl ⟨?_, rfl⟩⟩⟩
      · simp [spl, sel, h0]
      · simp [tvS, spl, sel, h0, n1]
    | false =>
    cases h1 : sp b 1 with
    | true =>
      refine ⟨t.C_NoName, 1, [2, 3].filter (sp b), ?_, by decide, .inl ⟨rfl, rfl⟩, .inl ⟨rfl, .inr (.inl ⟨?_, ?_, rfl⟩)⟩⟩
      · simp [spl, sel, h0, h1]
      · simp [tvS, spl, sel, h0, h1, g1]
      · simp [tvS, spl, sel, h0, h1, n2]
    | false =>
    cases h2 : sp b 2 with
    | true =>
      refine ⟨t.C_NoDay, 2, [3].filter (sp b), ?_, by decide, .inr (.inl ⟨rfl, rfl⟩), .inl ⟨rfl, .inr (.inr (.inl ⟨?_, ?_, ?_, rfl⟩))⟩⟩
      · simp [spl, sel, h0, h1, h2]
      · simp [tvS, spl, sel, h0, h1, h2, g1]
      · simp [tvS, spl, sel, h0, h1, h2, g2]
      · simp [spl, sel, h0, h1, h2, b3]
    | false =>
      have h3 : sp b 3 = true := by
        rcases some with h | h | h | h
        · rw [h0] at h; cases h
        · rw [h1] at h; cases h
        · rw [h2] at h; cases h
        · exact h
      refine ⟨t.C_NoBook, 3, [], ?_, by decide, .inr (.inr ⟨rfl, rfl⟩), .inl ⟨rfl, .inr (.inr (.inr ⟨?_, ?_, ⟨d, ?_, d0, d1⟩, ?_, rfl⟩))⟩⟩
      · simp [spl, sel, h0, h1, h2, h3]
      · simp [tvS, spl, sel, h0, h1, h2, h3, g1]
      · simp [tvS, spl, sel, h0, h1, h2, h3, g2]
      · simp [spl, sel, h0, h1, h2, h3]
      · simp [spl, sel, h0, h1, h2, h3, b4]
  · cases h0 : sp b 0 with
    | true =>
      refine ⟨t.C_NoName, 0, [1, 3].filter (sp b), ?_, by decide, .inl ⟨rfl, rfl⟩, .inr (.inl ⟨rfl, .inl ⟨?_, rfl⟩⟩)⟩
      · simp [spl, sel, h0]
      · simp [tvS, spl, sel, h0, n1]
    | false =>
    cases h1 : sp b 1 with
    | true =>
      refine ⟨t.C_NoName, 1, [3].filter (sp b), ?_, by decide, .inl ⟨rfl, rfl⟩, .inr (.inl ⟨rfl, .inr (.inl ⟨?_, ?_, rfl⟩)⟩)⟩
      · simp [spl, sel, h0, h1]
      · simp [tvS, spl, sel, h0, h1, g1]
      · simp [tvS, spl, sel, h0, h1, n2]
    | false =>
      have e3 : spl 1 b = [3] := by
        cases h3 : sp b 3 <;> simp [spl, sel, h0, h1, h3]
      refine ⟨t.C_NoBook, 3, [], e3, by decide, .inr (.inr ⟨rfl, rfl⟩), .inr (.inl ⟨rfl, .inr (.inr ⟨?_, ?_, ?_, rfl⟩)⟩)⟩
      · simp [tvS, e3, g1]
      · simp [tvS, e3, g2]
      · simp [e3, b4]
  · have e3 : spl 2 b = [3] := by
      cases h3 : sp b 3 <;> simp [spl, sel, h3]
    refine ⟨t.C_NoBook, 3, [], e3, by decide, .inr (.inr ⟨rfl, rfl⟩), .inr (.inr ⟨rfl, ?_, rfl⟩)⟩
    simp [e3, b4]
end
end Ck
set_option Elab.async false
set_option linter.all false
set_option maxRecDepth 100000
set_option maxHeartbeats 4000000
namespace Ck
open PySem L2
section
variable {P : Program} {w : World} {K : PySem.W.Frag} {mg : Str → Option Value} {base : Heap} {t : Ad}
theorem or_joinH {x : V} {k : Bool} {R Pv : V → Hp → Prop} {B : Prop} {H : Hp} (rest : ∀ v H', Pv v H' → R v H') (left : k = true → Pv x H) (right : k = false → (∀ v H', Pv v H' → R v H') → B) : if k = true then R x H else B := by
  cases k with
  | true => rw [if_pos rfl]; exact rest _ _ (left rfl)
  | false => rw [if_neg (by decide)]; exact right rfl rest
def nV (l : List Nat) : List V := l.map fun (k : Nat) => V.int (k : Int)
theorem at4n {xs : List V} {i : Nat} (h : i < 4) (l : xs.length = 4) : atI xs (i : Int) = some (xs.getD i .non) := by
  refine at_of (j := i) rfl ?_
  rw [List.getD_eq_getElem?_getD, List.getElem?_eq_getElem (by omega)]
  rfl
theorem four_eta (f : Nat → V) : (List.range 4).map f = [f 0, f 1, f 2, f 3] := rfl
def spRefused (K : PySem.W.Frag) (t : Ad) : Sp := fun vs H Q _ => ∃ (dr a x L Lr pr : Addr) (ns : List Int) (way : Int) (tn kd : Str) (d m : Int) (rows : List CRow), vs = [.ref dr, .ref x, .ref Lr, .int way, .ref pr] ∧ DrawAt K H dr a ns ∧ CallsAt t.C_Calls H x L rows ∧ LRows H Lr rows ∧ L ≠ dr ∧ Lr ≠ dr ∧ pr ≠ dr ∧ 0 ≤ way ∧ way ≤ 2 ∧ H pr = some (.lst [.str tn, .str kd, .int d, .int m]) ∧ rows.length ≤ 60 ∧ nameOk tn = true ∧ nameOk kd = true ∧ 0 ≤ d ∧ d ≤ 9999 ∧
  ∀ H', DrawAt K H' dr a ns → Keep dr H H' → Q (.bl true) H'
theorem ok_refused (T : Env K mg t) : FnOk P w K mg base CX0 7 t.a_l_refused t.fd_l_refused ["_law_draw", "_law_calls", "_law_rows", "_law_way", "_law_parts"] (spRefused K t) := by
  have G_l_next : FnOk P w K mg base CX0 2 t.a_l_next t.fd_l_next ["_law_draw", "_law_size"] (spNext K) := ok_next T
  have G_l_bad_name : FnOk P w K mg base CX0 3 t.a_l_bad_name t.fd_l_bad_name ["_law_draw", "_law_word_here"] (spBadName K) := ok_bname T
  have G_l_bad_number : FnOk P w K mg base CX0 3 t.a_l_bad_number t.fd_l_bad_number ["_law_draw", "_law_most"] (spBadNum K) := ok_bnum T
  have G_l_asked : FnOk P w K mg base CX0 6 t.a_l_asked t.fd_l_asked ["_law_calls", "_law_way", "_law_parts"] (spAsked t) := ok_asked T
  refine T.f_l_refused.okQ sc_l_refused (fun vs H Q E h => ?_) (fun cdv A outer s H vs Q E hr h => ?_)
  · obtain ⟨dr, a, x, L, Lr, pr, ns, way, tn, kd, d, m, rows, rfl, _⟩ := h
    rfl
  · obtain ⟨dr, a, x, L, Lr, pr, ns, way, tn, kd, d, m, rows, rfl, D, c, lr, nL, nLr, npr, w0, w1, hpr, l60, nt, nk, d0, d1, q⟩ := h
    have hr_l_next : Room 2 _ := hr.mono (by decide)
    have hr_l_bad_name : Room 3 _ := hr.mono (by decide)
    have hr_l_bad_number : Room 3 _ := hr.mono (by decide)
    have hr_l_asked : Room 6 _ := hr.mono (by decide)
    refine ⟨_, (q_pss_cons (q_ps_set (i := 5) sc_l_refused.nd rfl (by first | exact Or.inl rfl | exact Or.inr (Or.inl rfl) | exact Or.inr rfl) (q_pe_op op_add q_pe_int (q_pe_call G_l_next hr_l_next (by rfl) T.mg_l_next T.kp_l_next T.b_l_next .nil pass0 (q_pa_cons (q_pv 0) (q_pa_cons q_pe_int q_pa_nil star_Constant) star_Name))))
      (q_pss_cons (q_ps_set (i := 6) sc_l_refused.nd rfl (by first | exact Or.inl rfl | exact Or.inr (Or.inl rfl) | exact Or.inr rfl) (q_pe_ix ix_list (q_pe_lst (q_pa_cons (q_pe_lst (q_pa_cons q_pe_int (q_pa_cons q_pe_int (q_pa_cons q_pe_int (q_pa_cons q_pe_int q_pa_nil star_Constant) star_Constant) star_Constant) star_Constant)) (q_pa_cons (q_pe_lst (q_pa_cons q_pe_int (q_pa_cons q_pe_int (q_pa_cons q_pe_int q_pa_nil star_Constant) star_Constant) star_Constant)) (q_pa_cons (q_pe_lst (q_pa_cons q_pe_int q_pa_nil star_Constant)) q_pa_nil star_List) star_List) star_List)) (q_pv 3) (fun _ _ => rfl)))
      (q_pss_cons (q_ps_set (i := 7) sc_l_refused.nd rfl (by first | exact Or.inl rfl | exact Or.inr (Or.inl rfl) | exact Or.inr rfl) (q_pe_lst (q_pa_cons (q_pe_call G_l_bad_name hr_l_bad_name (by rfl) T.mg_l_bad_name T.kp_l_bad_name T.b_l_bad_name .nil pass0 (q_pa_cons (q_pv 0) (q_pa_cons (q_pe_ix ix_list (q_pv 4) q_pe_int (fun _ _ => rfl)) q_pa_nil star_Subscript) star_Name)) (q_pa_cons (q_pe_call G_l_bad_name hr_l_bad_name (by rfl) T.mg_l_bad_name T.kp_l_bad_name T.b_l_bad_name .nil pass0 (q_pa_cons (q_pv 0) (q_pa_cons (q_pe_ix ix_list (q_pv 4) q_pe_int (fun _ _ => rfl)) q_pa_nil star_Subscript) star_Name)) q_pa_nil star_Call) star_Call)))
      (q_pss_cons (q_ps_set (i := 7) sc_l_refused.nd rfl (by first | exact Or.inl rfl | exact Or.inr (Or.inl rfl) | exact Or.inr rfl) (q_pe_op op_cat (q_pv 7) (q_pe_lst (q_pa_cons (q_pe_call G_l_bad_number hr_l_bad_number (by rfl) T.mg_l_bad_number T.kp_l_bad_number T.b_l_bad_number .nil pass0 (q_pa_cons (q_pv 0) (q_pa_cons q_pe_int q_pa_nil star_Constant) star_Name)) (q_pa_cons (q_pe_call G_l_bad_number hr_l_bad_number (by rfl) T.mg_l_bad_number T.kp_l_bad_number T.b_l_bad_number .nil pass0 (q_pa_cons (q_pv 0) (q_pa_cons (q_pe_callB call_len_seq (by rfl) T.z_len PySem.boot_len (q_pa_cons (q_pv 2) q_pa_nil star_Name)) q_pa_nil star_Call) star_Name)) q_pa_nil star_Call) star_Call))))
      (q_pss_cons (q_ps_set (i := 8) sc_l_refused.nd rfl (by first | exact Or.inl rfl | exact Or.inr (Or.inl rfl) | exact Or.inr rfl) (q_pe_orG (q_pe_lc (own := [("_law_k", 11)]) (g := gName 11) (by rfl) sc_l_refused.nd (q_pi_list (q_pv 6)) (blkOk_by (own := [("_law_k", 11)]) (N := ["_law_draw", "_law_calls", "_law_rows", "_law_way", "_law_parts", "_law_bits", "_law_some", "_law_bad", "_law_spoilt", "_law_asked_here", "_law_due_here", "_law_k"]) (sc := defScope s_l_refused) (by decide +kernel)) (fun _ _ _ _ _ => (q_pg_name (i := 11) sc_l_refused.nd rfl (by first | exact Or.inl rfl | exact Or.inr (Or.inl rfl) | exact Or.inr rfl))) (fun _ _ _ _ _ => (q_pts_one (q_pt_cmpR op_eq (q_pe_op op_mod (q_pe_op op_fdiv (q_pv 5) (q_pe_ix (ix_listK (K := K) rfl) (q_pe_lst (q_pa_cons q_pe_int (q_pa_cons q_pe_int (q_pa_cons q_pe_int (q_pa_cons q_pe_int q_pa_nil star_Constant) star_Constant) star_Constant) star_Constant)) (q_pv 11) (fun _ _ => rfl))) q_pe_int) q_pe_int (nomark _)))) (fun _ _ _ _ _ => (q_pv 11))) (q_pe_one (q_pe_lst (q_pa_cons q_pe_int q_pa_nil star_Constant)))))
      (q_pss_cons ((q_ps_setLc (i := 9) (own := [("_law_k", 11)]) (g := gName 11) (by rfl) sc_l_refused.nd rfl rfl (sw_true rfl rfl rfl (by decide +kernel)) (q_pi_range1 (by rfl) T.z_range (q_pa_cons q_pe_int q_pa_nil star_Constant)) (blkOk_by (own := [("_law_k", 11)]) (N := ["_law_draw", "_law_calls", "_law_rows", "_law_way", "_law_parts", "_law_bits", "_law_some", "_law_bad", "_law_spoilt", "_law_asked_here", "_law_due_here", "_law_k"]) (sc := defScope s_l_refused) (by decide +kernel)) (fun _ _ _ _ _ => (q_pg_name (i := 11) sc_l_refused.nd rfl (by first | exact Or.inl rfl | exact Or.inr (Or.inl rfl) | exact Or.inr rfl))) (fun _ _ _ _ _ => q_pts_nil) (fun _ _ _ _ _ => (q_pe_ifExp (q_pt_cmpR (op_in_seqK (K := K) rfl) (q_pv 11) (q_pv 8) (by rfl)) (q_pe_ix (ix_listK (K := K) rfl) (q_pv 7) (q_pv 11) (fun _ _ => rfl)) (q_pe_ix (ix_listK (K := K) rfl) (q_pv 4) (q_pv 11) (fun _ _ => rfl))))))
      (q_pss_cons (q_ps_set (i := 10) sc_l_refused.nd rfl (by first | exact Or.inl rfl | exact Or.inr (Or.inl rfl) | exact Or.inr rfl) (q_pe_tup (q_pa_cons q_pe_str (q_pa_cons (q_pe_lst (q_pa_cons (q_pe_ix ix_list (q_pe_lst (q_pa_cons q_pe_str (q_pa_cons q_pe_str (q_pa_cons q_pe_str (q_pa_cons q_pe_str q_pa_nil star_Constant) star_Constant) star_Constant) star_Constant)) (q_pe_ix ix_list (q_pv 8) q_pe_int (fun _ _ => rfl)) (fun _ _ => rfl)) q_pa_nil star_Subscript)) q_pa_nil star_List) star_Constant)))
      (q_pss_one (q_ps_ret (q_pe_and (q_pe_cmpR (op_eqD hr.units) (q_pe_call G_l_asked hr_l_asked (by rfl) T.mg_l_asked T.kp_l_asked T.b_l_asked .nil pass0 (q_pa_cons (q_pv 1) (q_pa_cons (q_pv 3) (q_pa_cons (q_pv 9) q_pa_nil star_Name) star_Name) star_Name)) (q_pv 10) (nomark _)) (q_pe_one (q_pe_cmpR (op_eqD hr.units) (q_pe_call G_l_asked hr_l_asked (by rfl) T.mg_l_asked T.kp_l_asked T.b_l_asked .nil pass0 (q_pa_cons (q_pv 1) (q_pa_cons (q_pv 3) (q_pa_cons (q_pv 9) q_pa_nil star_Name) star_Name) star_Name)) (q_pv 10) (nomark _))))))))))))), ?_⟩
    refine ⟨_, rfl, dr, a, ns, _, rfl, D, by decide, fun b0 H1 b00 b01 D1 k1 => ⟨_, _, rfl, rfl, ?_⟩⟩
    obtain ⟨b, eb⟩ : ∃ b : Int, b = 1 + b0 := ⟨_, rfl⟩
    have hb0 : 1 ≤ b := by omega
    have hb1 : b ≤ 15 := by omega
    have w3 : way = 0 ∨ way = 1 ∨ way = 2 := by omega
    refine ⟨(by show 4 ≤ sizeLine; decide), fun q0 hq0 => ⟨(by show 3 ≤ sizeLine; decide), fun q1 hq1 => ⟨(by show 1 ≤ sizeLine; decide), fun q2 hq2 => ⟨(by show 3 ≤ sizeLine; decide), fun q3 hq3 => ?_⟩⟩⟩⟩
    have z0 := same_new (o := .lst [V.int 0, V.int 1, V.int 2, V.int 3]) hq0
    have e0 := new_at (o := .lst [V.int 0, V.int 1, V.int 2, V.int 3]) hq0
    have z1 := same_new (o := .lst [V.int 0, V.int 1, V.int 3]) hq1
    have e1 := new_at (o := .lst [V.int 0, V.int 1, V.int 3]) hq1
    have z2 := same_new (o := .lst [V.int 3]) hq2
    have e2 := new_at (o := .lst [V.int 3]) hq2
    have z3 := same_new (o := .lst [V.ref q0, V.ref q1, V.ref q2]) hq3
    have e3 := new_at (o := .lst [V.ref q0, V.ref q1, V.ref q2]) hq3
    have zA := ((z0.trans z1).trans z2).trans z3
    obtain ⟨qs, hat, hqs, nqs⟩ : ∃ qs, atI ([V.ref q0, V.ref q1, V.ref q2] : List V) way = some (.ref qs) ∧ (upd (upd (upd (upd H1 q0 (.lst [V.int 0, V.int 1, V.int 2, V.int 3])) q1 (.lst [V.int 0, V.int 1, V.int 3])) q2 (.lst [V.int 3])) q3 (.lst [V.ref q0, V.ref q1, V.ref q2])) qs = some (.lst (nV (sel way))) ∧ qs ≠ dr := by
      rcases w3 with rfl | rfl | rfl
      · exact ⟨q0, at_of (j := 0) (by decide) rfl, z3 _ _ (z2 _ _ (z1 _ _ e0)), D1.ne hq0⟩
      · exact ⟨q1, at_of (j := 1) (by decide) rfl, z3 _ _ (z2 _ _ e1), (D1.same z0).ne hq1⟩
      · exact ⟨q2, at_of (j := 2) (by decide) rfl, z3 _ _ e2, ((D1.same z0).same z1).ne hq2⟩
    refine ⟨_, rfl, q3, _, _, _, rfl, rfl, SqL.of e3, hat, ?_⟩
    have D1 := D1.same zA
    have k1 := k1.trans (.of zA)
    generalize (upd (upd (upd (upd H1 q0 (.lst [V.int 0, V.int 1, V.int 2, V.int 3])) q1 (.lst [V.int 0, V.int 1, V.int 3])) q2 (.lst [V.int 3])) q3 (.lst [V.ref q0, V.ref q1, V.ref q2])) = G1 at *
    have hpr1 := k1 _ _ hpr npr
    refine ⟨_, rfl, _, rfl, pr, _, 0, _, rfl, rfl, SqL.of hpr1, at_of (j := 0) (by decide) rfl, dr, a, ns, _, rfl, D1, nt, fun x1 H2 nx1 lx1 D2 k2 => ?_⟩
    have hpr2 := k2 _ _ hpr1 npr
    refine ⟨_, rfl, _, rfl, pr, _, 1, _, rfl, rfl, SqL.of hpr2, at_of (j := 1) (by decide) rfl, dr, a, ns, _, rfl, D2, nk, fun x2 H3 nx2 lx2 D3 k3 => ?_⟩
    refine ⟨(by show 2 ≤ sizeLine; decide), fun L0 hL0 => ?_⟩
    have s3 := same_new (o := .lst [V.str x1, V.str x2]) hL0
    have f0 := new_at (o := .lst [V.str x1, V.str x2]) hL0
    have nL0 := D3.ne hL0
    have K3 : Keep dr H (upd H3 L0 (.lst [V.str x1, V.str x2])) := ((k1.trans k2).trans k3).trans (.of s3)
    refine ⟨_, rfl, _, rfl, dr, a, ns, 9999, rfl, D3.same s3, by decide, by decide, fun v3 H4 bv3 D4 k4 => ?_⟩
    have f0 := k4 _ _ f0 nL0
    have K4 := K3.trans k4
    obtain ⟨rs, hLr, ra⟩ := id lr
    have el : (((rs.map V.ref).length : Nat) : Int) = (rows.length : Int) := by rw [List.length_map, ra.len]
    refine ⟨_, rfl, _, rfl, Lr, _, rfl, .inl (SqL.of (K4 _ _ hLr nLr)), dr, a, ns, _, rfl, D4, by omega, by omega, fun v4 H5 bv4 D5 k5 => ?_⟩
    rw [el] at bv4
    have f0 := k5 _ _ f0 nL0
    have K5 := K4.trans k5
    refine ⟨(by show 2 ≤ sizeLine; decide), fun L1 hL1 => ?_⟩
    have s6 := same_new (o := .lst [v3, v4]) hL1
    refine ⟨L0, L1, _, _, rfl, rfl, s6 _ _ f0, upd_same, (by show 2 + 2 ≤ sizeLine; decide), fun L2 hL2 => ?_⟩
    have s7 := s6.trans (same_new (o := .lst ([V.str x1, V.str x2] ++ [v3, v4])) hL2)
    have f2 : (upd (upd H5 L1 (.lst [v3, v4])) L2 (.lst ([V.str x1, V.str x2] ++ [v3, v4]))) L2 = some (.lst [V.str x1, V.str x2, v3, v4]) := upd_same
    have D7 := D5.same s7
    have K7 := K5.trans (.of s7)
    have hpr7 := K7 _ _ hpr npr
    have hqs7 : (upd (upd H5 L1 (.lst [v3, v4])) L2 (.lst ([V.str x1, V.str x2] ++ [v3, v4]))) qs = some (.lst (nV (sel way))) := s7 _ _ (k5 _ _ (k4 _ _ (s3 _ _ (k3 _ _ (k2 _ _ hqs nqs) nqs)) nqs) nqs)
    generalize (upd (upd H5 L1 (.lst [v3, v4])) L2 (.lst ([V.str x1, V.str x2] ++ [v3, v4]))) = H7 at f2 D7 K7 hpr7 hqs7
    clear s7 s6
    refine ⟨_, rfl, qs, rfl, ⟨_, SqL.of hqs7⟩, fun Ls hLs => ?_⟩
    have sel4 : ∀ k ∈ sel way, k < 4 := by
      intro k hk
      rcases w3 with rfl | rfl | rfl
      · simp [sel] at hk; omega
      · simp [sel] at hk; omega
      · simp [sel] at hk; omega
    refine lc_list (xs := nV (sel way)) (fun i H' => H' Ls = some (.lst (nV (((sel way).take i).filter (sp b)))) ∧ Same H7 H') ?_ ?_ ?_ ?_
    · exact ⟨upd_same, same_new hLs⟩
    · rintro i H8 hi ⟨h8, s8⟩
      exact SqL.of (s8 _ _ hqs7)
    · rintro i y H8 hy ⟨h8, s8⟩
      unfold nV at hy
      rw [List.getElem?_map] at hy
      cases hk : (sel way)[i]? with
      | none => rw [hk] at hy; cases hy
      | some k =>
      rw [hk] at hy
      cases hy
      have hi := sel4 k (List.mem_of_getElem? hk)
      refine ⟨rfl, ?_⟩
      have pp := pw2_pos hi
      refine ⟨_, rfl, (by show 4 ≤ sizeLine; decide), fun l hl => ?_⟩
      have s9 := same_new (o := .lst [V.int 1, V.int 2, V.int 4, V.int 8]) hl
      have hv := at4n (xs := [V.int 1, V.int 2, V.int 4, V.int 8]) hi rfl
      rw [pw2_at hi] at hv
      refine ⟨_, rfl, l, _, _, _, rfl, rfl, SqL.of upd_same, hv, _, _, rfl, rfl, pp, _, _, rfl, rfl, (by show (0 : Int) < 2; decide), rfl, _, rfl, ?_⟩
      have es : decide (V.int ((1 + b0) / pw2.getD k 1 % 2) = V.int 1) = sp b k := by
        unfold sp
        rw [eb]
        exact decide_eq_decide.mpr (by rw [V.int.injEq])
      have h9 := s9 _ _ h8
      have hls : (sel way).length ≤ 4 := by rcases w3 with rfl | rfl | rfl <;> decide
      refine ite2 (fun g1 => ?_) (fun g1 => ?_)
      · have g1 : sp b k = true := by rw [← es]; exact g1
        refine ⟨_, rfl, _, h9, small1000 ?_, ?_, fun b' o e => ?_⟩
        · have := List.length_filter_le (sp b) ((sel way).take i)
          rw [List.length_take] at this
          unfold nV
          rw [List.length_map]
          omega
        · rw [upd_same]
          unfold nV
          rw [filtm_yes (p := sp b) (f := fun (k : Nat) => V.int (k : Int)) hk g1]
        · rw [upd_ne (ne_of_none e hLs)]; exact s9 _ _ (s8 _ _ e)
      · have g1 : ¬ sp b k = true := by rw [← es]; exact g1
        refine ⟨?_, s8.trans s9⟩
        unfold nV at h9 ⊢
        rw [h9, filtm_no (p := sp b) (f := fun (k : Nat) => V.int (k : Int)) hk g1]
    rintro H8 ⟨h8, s8⟩
    have lsel : (nV (sel way)).length = (sel way).length := by unfold nV; rw [List.length_map]
    rw [lsel, List.take_length] at h8
    refine ⟨_, .inl ⟨_, SqL.of h8, rfl⟩, ?_⟩
    have hem : (nV ((sel way).filter (sp b))).isEmpty = ((sel way).filter (sp b)).isEmpty := by
      unfold nV; rw [List.isEmpty_map]
    rw [hem]
    refine or_joinH (R := fun x H1 => gName 8 x _ H1 _) (Pv := fun v H' => ∃ Lp, v = .ref Lp ∧ H' Lp = some (.lst (nV (spl way b))) ∧ Same H8 H') ?_ (fun hk => ?_) (fun hk rest => ?_)
    · rintro v H9 ⟨Lp, rfl, h9, s9⟩
      have f9 := s9 _ _ (s8 _ _ f2)
      have hpr9 := s9 _ _ (s8 _ _ hpr7)
      have D9 := (D7.same s8).same s9
      have K9 := (K7.trans (.of s8)).trans (.of s9)
      obtain ⟨C, s0, rr, eS, s4, wo, fb⟩ := first_bad (t := t) (m := m) (n := rows.length) w3 hb0 hb1 nx1 nx2 bv3 bv4 nt nk d0 d1
      generalize hS : spl way b = S at *
      refine ⟨4, rfl, by decide, by decide, fun Lt hLt => ?_⟩
      refine lc_range (lo := 0) (n := 4) (fun i H' => H' Lt = some (.lst ((List.range i).map (tv S [V.str x1, V.str x2, v3, v4] [V.str tn, V.str kd, V.int d, V.int m]))) ∧ Same H9 H') ?_ ?_ ?_
      · exact ⟨upd_same, same_new hLt⟩
      · rintro i H10 hi ⟨h10, s10⟩
        have hi : i < 4 := hi
        refine ⟨rfl, yes_i ?_⟩
        refine ⟨_, rfl, _, rfl, Lp, _, rfl, .inl (SqL.of (s10 _ _ h9)), rfl, flat_nats _, _, rfl, ?_⟩
        rw [if_neg (by decide : ¬ (false = true))]
        unfold nV
        rw [inV_nats]
        have fin : ∀ v, v = tv S [V.str x1, V.str x2, v3, v4] [V.str tn, V.str kd, V.int d, V.int m] i → ∃ acc, H10 Lt = some (.lst acc) ∧ acc.length < sizeLine ∧ (upd H10 Lt (.lst (acc ++ [v]))) Lt = some (.lst ((List.range (i + 1)).map (tv S [V.str x1, V.str x2, v3, v4] [V.str tn, V.str kd, V.int d, V.int m]))) ∧ Same H9 (upd H10 Lt (.lst (acc ++ [v]))) := by
          rintro v rfl
          refine ⟨_, h10, small1000 (by rw [List.length_map, List.length_range]; omega), by rw [upd_same, List.range_succ, List.map_append]; rfl, fun b' o e => ?_⟩
          rw [upd_ne (ne_of_none e hLt)]; exact s10 b' o e
        refine ite2 (fun g1 => ?_) (fun g1 => ?_)
        · have g2 := of_decide_eq_true g1
          refine ⟨_, rfl, _, rfl, L2, _, _, _, rfl, rfl, SqL.of (s10 _ _ f9), at4 hi rfl, fin _ ?_⟩
          unfold tv
          rw [if_pos g2]
        · have g2 : ¬ i ∈ S := fun z => g1 (decide_eq_true z)
          refine ⟨_, rfl, _, rfl, pr, _, _, _, rfl, rfl, SqL.of (s10 _ _ hpr9), at4 hi rfl, fin _ ?_⟩
          unfold tv
          rw [if_neg g2]
      rintro H10 ⟨h10, s10⟩
      have et : (List.range 4).map (tv S [V.str x1, V.str x2, v3, v4] [V.str tn, V.str kd, V.int d, V.int m]) = [.str (tvS S 0 x1 tn), .str (tvS S 1 x2 kd), (if 2 ∈ S then v3 else .int d), (if 3 ∈ S then v4 else .int m)] := by
        rw [four_eta]
        have q0 : tv S [V.str x1, V.str x2, v3, v4] [V.str tn, V.str kd, V.int d, V.int m] 0 = V.str (tvS S 0 x1 tn) := by unfold tv tvS; split <;> rfl
        have q1 : tv S [V.str x1, V.str x2, v3, v4] [V.str tn, V.str kd, V.int d, V.int m] 1 = V.str (tvS S 1 x2 kd) := by unfold tv tvS; split <;> rfl
        rw [q0, q1]
        rfl
      rw [et] at h10
      have h9' := s10 _ _ h9
      have K10 := K9.trans (.of s10)
      have D10 := D9.same s10
      have ln1 := (nameOk_iff.mp nt).2.1
      have ln2 := (nameOk_iff.mp nk).2.1
      have l1 : (tvS S 0 x1 tn).length ≤ 1000 := by unfold tvS; split <;> omega
      have l2 : (tvS S 1 x2 kd).length ≤ 1000 := by unfold tvS; split <;> omega
      rw [eS] at h9'
      have ew : ([V.str "name", V.str "name", V.str "day", V.str "book"] : List V).getD s0 .non = V.str (wds4.getD s0 Str.empty) := by
        rcases four s4 with rfl | rfl | rfl | rfl <;> rfl
      have owd : Okt (wds4.getD s0 Str.empty) := by
        rcases wo with ⟨_, h⟩ | ⟨_, h⟩ | ⟨_, h⟩ <;> (rw [h]; unfold Okt; decide +kernel)
      refine ⟨(by show 4 ≤ sizeLine; decide), fun l4 hl4 => ?_⟩
      have y1 := same_new (o := .lst [V.str "name", V.str "name", V.str "day", V.str "book"]) hl4
      have hv := at4n (xs := [V.str "name", V.str "name", V.str "day", V.str "book"]) s4 rfl
      rw [ew] at hv
      refine ⟨_, rfl, Lp, _, 0, _, rfl, rfl, SqL.of (y1 _ _ h9'), at_of (j := 0) (by decide) rfl, l4, _, _, _, rfl, rfl, SqL.of upd_same, hv, (by show 1 ≤ sizeLine; decide), fun l5 hl5 => ?_⟩
      have y2 := same_new (o := .lst [V.str (wds4.getD s0 Str.empty)]) hl5
      have e5 := new_at (o := .lst [V.str (wds4.getD s0 Str.empty)]) hl5
      refine ⟨(by show 2 ≤ sizeLine; decide), fun pd hpd => ?_⟩
      have y3 := same_new (o := .tup [V.str "refused", V.ref l5]) hpd
      have rd : RefAt _ pd (wds4.getD s0 Str.empty) := ⟨l5, upd_same, y3 _ _ e5⟩
      have yA := (y1.trans y2).trans y3
      have hLt := yA _ _ h10
      have DA := D10.same yA
      have KA := K10.trans (.of yA)
      obtain ⟨zd, _, hd0⟩ := D.ex
      have cA := c.keep KA hd0 nL
      refine ⟨_, rfl, _, rfl, _, rfl, x, L, Lt, way, _, _, _, _, rows, rfl, w0, w1, hLt, cA, l1, l2, l60, .inr ⟨C, _, fb, wo, fun p1 H11 r1 s11 => ?_⟩⟩
      refine ⟨_, rfl, _, _, r1.dp, (rd.same s11).dp, shaped_ref owd, shaped_ref owd, ?_⟩
      rw [eqv_ref owd]
      refine ⟨_, rfl, iteT ?_⟩
      refine ⟨_, rfl, _, rfl, _, rfl, x, L, Lt, way, _, _, _, _, rows, rfl, w0, w1, s11 _ _ hLt, cA.same s11, l1, l2, l60, .inr ⟨C, _, fb, wo, fun p2 H12 r2 s12 => ?_⟩⟩
      refine ⟨_, rfl, _, _, r2.dp, ((rd.same s11).same s12).dp, shaped_ref owd, shaped_ref owd, ?_⟩
      rw [eqv_ref owd]
      exact q _ ((DA.same s11).same s12) ((KA.trans (.of s11)).trans (.of s12))
    · have hne : ((sel way).filter (sp b)).isEmpty = false := by simpa using hk
      refine ⟨Ls, rfl, ?_, Same.refl _⟩
      unfold spl
      rw [if_neg (by rw [hne]; decide)]
      exact h8
    · have hne : ((sel way).filter (sp b)).isEmpty = true := by simpa using hk
      refine ⟨(by show 1 ≤ sizeLine; decide), fun l3 hl3 => ?_⟩
      refine rest _ _ ⟨l3, rfl, ?_, same_new hl3⟩
      unfold spl
      rw [if_pos hne, upd_same]; rfl
end
end Ck
set_option Elab.async false
set_option linter.all false
set_option maxRecDepth 100000
set_option maxHeartbeats 4000000
namespace Ck
open PySem L2
section
variable {P : Program} {w : World} {K : PySem.W.Frag} {mg : Str → Option Value} {base : Heap} {t : Ad}
theorem four_of {ws : List Str} (h : ws.length = 4) : ∃ a b c e, ws = [a, b, c, e] := by
  match ws, h with
  | [a, b, c, e], _ => exact ⟨a, b, c, e, rfl⟩
theorem LRows.push {H : Hp} {L p : Addr} {rs : List Addr} {rows : List CRow} {r : CRow} (h : H L = some (.lst (rs.map V.ref))) (ra : RowsAt H rs rows) (hp : H p = some (.tup (rowVs r))) : LRows (upd H L (.lst (rs.map V.ref ++ [V.ref p]))) L (rows ++ [r]) := by
  have t := Tups.upd (o := .lst (rs.map V.ref ++ [V.ref p])) h
  exact ⟨rs ++ [p], by rw [upd_same, List.map_append]; rfl, (ra.mono t).snoc (t _ _ hp)⟩
structure St17 (K : PySem.W.Frag) (C : Addr) (H : Hp) (d a x L Lr Ln : Addr) (ns : List Int) (ws : List Str) (rows : List CRow) : Prop where
  D : DrawAt K H d a ns
  c : CallsAt C H x L rows
  l : LRows H Lr rows
  nm : H Ln = some (.lst (ws.map V.str))
  good : ∀ r ∈ rows, GoodRow r
structure Ap (d L Lr Ln : Addr) : Prop where
  nL : L ≠ d
  nR : Lr ≠ d
  nN : Ln ≠ d
  nLR : L ≠ Lr
  nLN : L ≠ Ln
  nRN : Lr ≠ Ln
section
variable {C : Addr} {H H' : Hp} {d a x L Lr Ln : Addr} {ns : List Int} {ws : List Str} {rows : List CRow}
theorem St17.same (S : St17 K C H d a x L Lr Ln ns ws rows) (s : Same H H') : St17 K C H' d a x L Lr Ln ns ws rows :=
  ⟨S.D.same s, S.c.same s, S.l.same s, s _ _ S.nm, S.good⟩
theorem St17.draw (S : St17 K C H d a x L Lr Ln ns ws rows) (Z : Ap d L Lr Ln) (D' : DrawAt K H' d a ns) (k : Keep d H H') : St17 K C H' d a x L Lr Ln ns ws rows := by
  obtain ⟨z, _, hd⟩ := S.D.ex
  exact ⟨D', S.c.keep k hd Z.nL, S.l.keep k hd Z.nR, k _ _ S.nm Z.nN, S.good⟩
end
theorem eqv_rowsG {rows : List CRow} (g : ∀ r ∈ rows, GoodRow r) : PyData.eqv (.list (rows.map rowD)) (.list (rows.map rowD)) = true := PySem.SeqAt.eqv_refl _ (by simp only [PyData.canLay0, lay_rows rows fun r h => ⟨nameOk.okt (g r h).1, nameOk.okt (g r h).2.1⟩])
theorem St17.part (C : Addr) {H : Hp} {d a x L Lr Ln Lp : Addr} {ns : List Int} {ws : List Str} {rows : List CRow} {xs ys : List V} (S : St17 K C H d a x L Lr Ln ns ws rows) (hp : H Lp = some (.lst xs)) (n1 : Lp ≠ d) (n2 : L ≠ Lp) (n3 : Lr ≠ Lp) (n4 : Ln ≠ Lp) : St17 K C (upd H Lp (.lst ys)) d a x L Lr Ln ns ws rows := by
  have k : Keep Lp H (upd H Lp (.lst ys)) := fun b o e nb => by rw [upd_ne nb]; exact e
  exact ⟨S.D.upd n1 (nofrz hp), S.c.keep k hp n2, S.l.keep k hp n3, k _ _ S.nm n4, S.good⟩
def spLaw (K : PySem.W.Frag) : Sp := fun vs H Q _ => ∃ (a : Addr) (ns : List Int), vs = [.ref a] ∧ Scr K H a ns ∧ ns.length ≤ 63 ∧ ∀ H', Q (.bl true) H'
theorem ok_law (T : Env K mg t) : FnOk P w K mg base CX0 8 t.a_law t.fd_law ["_law_script"] (spLaw K) := by
  have G_l_words : FnOk P w K mg base CX0 4 t.a_l_words t.fd_l_words ["_law_draw", "_law_many"] (spWords K) := ok_words T
  have G_l_next : FnOk P w K mg base CX0 2 t.a_l_next t.fd_l_next ["_law_draw", "_law_size"] (spNext K) := ok_next T
  have G_l_row : FnOk P w K mg base CX0 4 t.a_l_row t.fd_l_row ["_law_draw", "_law_towns", "_law_kinds", "_law_rows"] (spRow K) := ok_row T
  have G_l_is : FnOk P w K mg base CX0 1 t.a_l_is t.fd_l_is ["_law_found", "_law_due_here"] spIs := ok_is T
  have G_l_asked : FnOk P w K mg base CX0 6 t.a_l_asked t.fd_l_asked ["_law_calls", "_law_way", "_law_parts"] (spAsked t) := ok_asked T
  have G_l_answer : FnOk P w K mg base CX0 3 t.a_l_answer t.fd_l_answer ["_law_way", "_law_parts", "_law_rows"] spAnswer := ok_answer T
  have G_l_refused : FnOk P w K mg base CX0 7 t.a_l_refused t.fd_l_refused ["_law_draw", "_law_calls", "_law_rows", "_law_way", "_law_parts"] (spRefused K t) := ok_refused T
  have G_Calls_init : FnOk P w K mg base CX0 1 t.a_Calls_init t.fd_Calls_init ["self"] (spCInit t.C_Calls) := ok_cinit T
  have G_Calls_tell : FnOk P w K mg base CX0 5 t.a_Calls_tell t.fd_Calls_tell ["self", "town", "kind", "day", "worth"] (spTell t.C_Calls) := ok_tell T
  have G_Calls_tellings : FnOk P w K mg base CX0 3 t.a_Calls_tellings t.fd_Calls_tellings ["self", "known"] (spTellings t.C_Calls) := ok_tellings T
  refine T.f_law.okQ sc_law (fun vs H Q E h => ?_) (fun cdv A outer s H vs Q E hr h => ?_)
  · obtain ⟨a, ns, rfl, _⟩ := h
    rfl
  · obtain ⟨a, ns, rfl, hS, hlen, k⟩ := h
    have hr_l_refused := hr
    have hr_l_asked : Room 6 _ := hr.mono (by decide)
    have hr_l_answer : Room 3 _ := hr.mono (by decide)
    have hr_Calls_init : Room 2 _ := hr.mono (by decide)
    have hr_Calls_tell : Room 5 _ := hr.mono (by decide)
    have hr_Calls_tellings : Room 3 _ := hr.mono (by decide)
    have hr_l_words : Room 4 _ := hr.mono (by decide)
    have hr_l_next : Room 2 _ := hr.mono (by decide)
    have hr_l_row : Room 4 _ := hr.mono (by decide)
    have hr_l_is : Room 1 _ := hr.mono (by decide)
    refine ⟨_, (q_pss_cons (q_ps_set (i := 1) sc_law.nd rfl (by first | exact Or.inl rfl | exact Or.inr (Or.inl rfl) | exact Or.inr rfl) (q_pe_lst (q_pa_cons (q_pv 0) (q_pa_cons q_pe_int q_pa_nil star_Constant) star_Name)))
      (q_pss_cons (q_ps_set (i := 2) sc_law.nd rfl (by first | exact Or.inl rfl | exact Or.inr (Or.inl rfl) | exact Or.inr rfl) (q_pe_call G_l_words hr_l_words (by rfl) T.mg_l_words T.kp_l_words T.b_l_words .nil pass0 (q_pa_cons (q_pv 1) (q_pa_cons q_pe_int q_pa_nil star_Constant) star_Name)))
      (q_pss_cons (q_ps_par (i := 3) (j := 4) (by rfl) sc_law.nd rfl rfl (by decide) rfl rfl (q_pa_cons (q_pe_make0 T.mk_Calls G_Calls_init hr_Calls_init (by rfl) T.mg_Calls T.b_Calls_init .nil pass0) (q_pa_cons (q_pe_lst q_pa_nil) q_pa_nil star_List) star_Call) (by rfl))
      (q_pss_cons (q_ps_for PassesOwn.never rfl (q_pi_range1 (by rfl) T.z_range (q_pa_cons (q_pe_callB (call_max2 rfl) (by rfl) T.z_max (by decide +kernel) (q_pa_cons q_pe_int (q_pa_cons (q_pe_callB (call_min2 rfl) (by rfl) T.z_min (by decide +kernel) (q_pa_cons (q_pe_callB call_len_seq (by rfl) T.z_len PySem.boot_len (q_pa_cons (q_pv 0) q_pa_nil star_Name)) (q_pa_cons q_pe_int q_pa_nil star_Constant) star_Call)) q_pa_nil star_Call) star_Constant)) q_pa_nil star_Call)) (q_pg_name (i := 5) sc_law.nd rfl (by first | exact Or.inl rfl | exact Or.inr (Or.inl rfl) | exact Or.inr rfl))
      (q_pss_cons (q_ps_set (i := 6) sc_law.nd rfl (by first | exact Or.inl rfl | exact Or.inr (Or.inl rfl) | exact Or.inr rfl) (q_pe_call G_l_next hr_l_next (by rfl) T.mg_l_next T.kp_l_next T.b_l_next .nil pass0 (q_pa_cons (q_pv 1) (q_pa_cons q_pe_int q_pa_nil star_Constant) star_Name)))
      (q_pss_cons (q_ps_set (i := 7) sc_law.nd rfl (by first | exact Or.inl rfl | exact Or.inr (Or.inl rfl) | exact Or.inr rfl) (q_pe_call G_l_row hr_l_row (by rfl) T.mg_l_row T.kp_l_row T.b_l_row .nil pass0 (q_pa_cons (q_pv 1) (q_pa_cons (q_pe_slice sl_list (q_pv 2) q_po_none (q_po_some q_pe_int)) (q_pa_cons (q_pe_slice sl_list (q_pv 2) (q_po_some q_pe_int) q_po_none) (q_pa_cons (q_pv 4) q_pa_nil star_Name) star_Subscript) star_Subscript) star_Name)))
      (q_pss_cons (q_ps_set (i := 8) sc_law.nd rfl (by first | exact Or.inl rfl | exact Or.inr (Or.inl rfl) | exact Or.inr rfl) (q_pe_lst (q_pa_cons (q_pe_ix ix_tup (q_pv 7) q_pe_int (fun _ _ => rfl)) (q_pa_cons (q_pe_ix ix_tup (q_pv 7) q_pe_int (fun _ _ => rfl)) (q_pa_cons (q_pe_ix ix_tup (q_pv 7) q_pe_int (fun _ _ => rfl)) (q_pa_cons (q_pe_call G_l_next hr_l_next (by rfl) T.mg_l_next T.kp_l_next T.b_l_next .nil pass0 (q_pa_cons (q_pv 1) (q_pa_cons (q_pe_op op_add (q_pe_callB call_len_seq (by rfl) T.z_len PySem.boot_len (q_pa_cons (q_pv 4) q_pa_nil star_Name)) q_pe_int) q_pa_nil star_BinOp) star_Name)) q_pa_nil star_Call) star_Subscript) star_Subscript) star_Subscript)))
      (q_pss_cons (q_ps_if (QW.pt (q_pw_or (q_pt_not (q_pt_val (q_pe_call G_l_refused hr_l_refused (by rfl) T.mg_l_refused T.kp_l_refused T.b_l_refused .nil pass0 (q_pa_cons (q_pv 1) (q_pa_cons (q_pv 3) (q_pa_cons (q_pv 4) (q_pa_cons (q_pv 6) (q_pa_cons (q_pv 8) q_pa_nil star_Name) star_Name) star_Name) star_Name) star_Name)))) (q_pw_or1 (q_pt_cmpR (op_neD hr.units) (q_pe_meth0 (q_pv 3) T.cl_Calls T.m_Calls_tellings G_Calls_tellings hr_Calls_tellings T.bd_Calls_tellings vals_none pass0) (q_pv 4) (nomark _))))) (q_pss_one (q_ps_ret q_pe_bl)) q_pss_nil)
      (q_pss_cons (q_ps_if (q_pt_cmpR (op_neD hr.units) (q_pe_call G_l_asked hr_l_asked (by rfl) T.mg_l_asked T.kp_l_asked T.b_l_asked .nil pass0 (q_pa_cons (q_pv 3) (q_pa_cons (q_pv 6) (q_pa_cons (q_pv 8) q_pa_nil star_Name) star_Name) star_Name)) (q_pe_call G_l_answer hr_l_answer (by rfl) T.mg_l_answer T.kp_l_answer T.b_l_answer .nil pass0 (q_pa_cons (q_pv 6) (q_pa_cons (q_pv 8) (q_pa_cons (q_pv 4) q_pa_nil star_Name) star_Name) star_Name)) (nomark _)) (q_pss_one (q_ps_ret q_pe_bl)) q_pss_nil)
      (q_pss_cons (q_ps_asg (q_pe_op op_add (q_pe_callB call_len_seq (by rfl) T.z_len PySem.boot_len (q_pa_cons (q_pv 4) q_pa_nil star_Name)) q_pe_int) (q_pg_sub (q_pv 8) q_pe_int set_list))
      (q_pss_cons (q_ps_if (q_pt_cmpR (op_neD hr.units) (q_pe_call G_l_asked hr_l_asked (by rfl) T.mg_l_asked T.kp_l_asked T.b_l_asked .nil pass0 (q_pa_cons (q_pv 3) (q_pa_cons (q_pv 6) (q_pa_cons (q_pv 8) q_pa_nil star_Name) star_Name) star_Name)) (q_pe_tup (q_pa_cons q_pe_str (q_pa_cons (q_pe_lst (q_pa_cons q_pe_str q_pa_nil star_Constant)) q_pa_nil star_List) star_Constant)) (nomark _)) (q_pss_one (q_ps_ret q_pe_bl)) q_pss_nil)
      (q_pss_cons (q_ps_expr (q_pe_bm PySem.F.plainAttrs_list PySem.F.slot_list_append PySem.F.type_list_append mt_append (q_pv 4) (q_pa_cons (q_pv 7) q_pa_nil star_Name)))
      (q_pss_cons (q_ps_if (q_pt_not (q_pt_val (q_pe_call G_l_is hr_l_is (by rfl) T.mg_l_is T.kp_l_is T.b_l_is .nil pass0 (q_pa_cons (q_pe_meth (q_pv 3) T.cl_Calls T.m_Calls_tell G_Calls_tell hr_Calls_tell T.b_Calls_tell .nil pass0 (q_pa_cons (q_pe_ix ix_tup (q_pv 7) q_pe_int (fun _ _ => rfl)) (q_pa_cons (q_pe_ix ix_tup (q_pv 7) q_pe_int (fun _ _ => rfl)) (q_pa_cons (q_pe_ix ix_tup (q_pv 7) q_pe_int (fun _ _ => rfl)) (q_pa_cons (q_pe_ix ix_tup (q_pv 7) q_pe_int (fun _ _ => rfl)) q_pa_nil star_Subscript) star_Subscript) star_Subscript) star_Subscript)) (q_pa_cons (q_pe_callB call_len_seq (by rfl) T.z_len PySem.boot_len (q_pa_cons (q_pv 4) q_pa_nil star_Name)) q_pa_nil star_Call) star_Call)))) (q_pss_one (q_ps_ret q_pe_bl)) q_pss_nil)
      (q_pss_one (q_ps_if (q_pt_cmpR (op_neD hr.units) (q_pe_call G_l_asked hr_l_asked (by rfl) T.mg_l_asked T.kp_l_asked T.b_l_asked .nil pass0 (q_pa_cons (q_pv 3) (q_pa_cons (q_pv 6) (q_pa_cons (q_pv 8) q_pa_nil star_Name) star_Name) star_Name)) (q_pe_call G_l_answer hr_l_answer (by rfl) T.mg_l_answer T.kp_l_answer T.b_l_answer .nil pass0 (q_pa_cons (q_pv 6) (q_pa_cons (q_pv 8) (q_pa_cons (q_pv 4) q_pa_nil star_Name) star_Name) star_Name)) (nomark _)) (q_pss_one (q_ps_ret q_pe_bl)) q_pss_nil))))))))))))
      (q_pss_one (q_ps_ret q_pe_bl)))))), ?_⟩
    refine ⟨_, rfl, (by show 2 ≤ sizeLine; decide), fun d hd => ?_⟩
    have sd := same_new (o := .lst [V.ref a, V.int 0]) hd
    have D0 : DrawAt K (upd H d (.lst [V.ref a, V.int 0])) d a ns := ⟨⟨0, by decide, upd_same⟩, hS.same sd, hlen⟩
    refine ⟨_, rfl, d, a, ns, 4, rfl, D0, by decide, by decide, fun Ln ws H2 lw nw aw hw nLw D2 k2 => ?_⟩
    obtain ⟨n1, n2, n3, n4, rfl⟩ := four_of lw
    intro x dx hx hdx nxd
    refine ⟨x, dx, rfl, upd_same, fun L H3 c3 nL3 k3 => ⟨rfl, ?_⟩⟩
    have s3 := made_same hx hdx k3
    have sm : Same H2 (upd (upd H2 dx (.own x)) x (.ins t.C_Calls dx [])) := fun b o e => by rw [upd_ne (ne_of_none e hx), upd_ne (ne_of_none e hdx)]; exact e
    have nLd : L ≠ d := (D2.same sm).ne nL3
    have nLn : L ≠ Ln := (ne_of_none (sm _ _ hw) nL3).symm
    have D3 := D2.same s3
    refine ⟨by decide, fun Lr hLr => ⟨_, _, rfl, ?_⟩⟩
    have s4 := same_new (o := .lst []) hLr
    obtain ⟨_, _, _, hL3, _⟩ := id c3
    have Z : Ap d L Lr Ln := ⟨nLd, D3.ne hLr, (D0.ne nLw), ne_of_none hL3 hLr, nLn, (ne_of_none (s3 _ _ hw) hLr).symm⟩
    have S5 : St17 K t.C_Calls (upd H3 Lr (.lst [])) d a x L Lr Ln ns [n1, n2, n3, n4] [] := ⟨D3.same s4, c3.same s4, ⟨[], upd_same, .nil _⟩, s4 _ _ (s3 _ _ hw), (fun r h => by simp at h)⟩
    generalize (upd H3 Lr (.lst [])) = H5 at S5
    have lm : ((ns.map V.int).length : Int) = (ns.length : Int) := by rw [List.length_map]
    refine ⟨_, rfl, a, _, rfl, .inl S5.D.sq, _, _, rfl, _, _, rfl, _, rfl, ?_, ?_, ?_⟩
    · show -(2 ^ 62 : Int) ≤ _
      rw [lm]; split <;> (try split) <;> omega
    · show _ < (2 ^ 62 : Int)
      rw [lm]; split <;> (try split) <;> omega
    refine for_range (lo := 0) (fun i σ H' => ∃ (o5 o6 o7 o8 : Option V) (rows : List CRow), σ = [some (.ref a), some (.ref d), some (.ref Ln), some (.ref x), some (.ref Lr), o5, o6, o7, o8] ∧ St17 K t.C_Calls H' d a x L Lr Ln ns [n1, n2, n3, n4] rows ∧ rows.length = i) ?_ ?_ ?_
    · exact ⟨_, _, _, _, [], rfl, S5, rfl⟩
    · rintro i σ H6 hi ⟨o5, o6, o7, o8, rows, rfl, S6, li⟩
      have hi : i < 12 := by
        have h2 := hi
        rw [lm] at h2
        revert h2
        split <;> (try split) <;> omega
      refine ⟨_, rfl, d, a, ns, _, rfl, S6.D, by decide, fun way H6 w0 w1 D6 k6 => ?_⟩
      have S6 := S6.draw Z D6 k6
      refine ⟨_, rfl, _, rfl, 2, rfl, Ln, _, rfl, SqL.of S6.nm, fun Lu hLu => ?_⟩
      have s7 := same_new (o := .lst [V.str n1, V.str n2]) hLu
      refine ⟨_, rfl, 2, rfl, Ln, _, rfl, SqL.of (s7 _ _ S6.nm), fun Lq hLq => ?_⟩
      have s8 := same_new (o := .lst [V.str n3, V.str n4]) hLq
      have S8 := (S6.same s7).same s8
      refine ⟨_, rfl, d, a, Lu, Lq, Lr, ns, [n1, n2], [n3, n4], rows, rfl, S8.D, s8 _ _ (new_at hLu), new_at hLq, (by simp), (by simp), (fun z hz => aw z (by simp at hz ⊢; rcases hz with rfl | rfl <;> simp)), (fun z hz => aw z (by simp at hz ⊢; rcases hz with rfl | rfl <;> simp)), S6.D.ne hLu, (S6.D.same s7).ne hLq, Z.nR, S8.l, by omega, S8.good, fun p r H9 gr _ _ hp np D9 k9 => ?_⟩
      have S9 := S8.draw Z D9 k9
      obtain ⟨rs9, hLr9, ra9⟩ := id S9.l
      have el9 : (((rs9.map V.ref).length : Nat) : Int) = (rows.length : Int) := by rw [List.length_map, ra9.len]
      refine ⟨_, rfl, p, _, 0, _, rfl, rfl, SqT.of hp, at_of (j := 0) (by decide) rfl, _, rfl, p, _, 1, _, rfl, rfl, SqT.of hp, at_of (j := 1) (by decide) rfl, _, rfl, p, _, 2, _, rfl, rfl, SqT.of hp, at_of (j := 2) (by decide) rfl, ?_⟩
      refine ⟨_, rfl, _, rfl, Lr, _, rfl, .inl (SqL.of hLr9), _, _, rfl, rfl, d, a, ns, _, rfl, S9.D, by omega, fun m H10 m0 m1 D10 k10 => ?_⟩
      have S10 := S9.draw Z D10 k10
      have hp10 := (S9.D.tups k10) _ _ hp
      refine ⟨(by show 4 ≤ sizeLine; decide), fun Lp hLp => ?_⟩
      obtain ⟨g1, g2, g3, g4, g5, g6⟩ := id gr
      have ln1 := (nameOk_iff.mp g1).2.1
      have ln2 := (nameOk_iff.mp g2).2.1
      have l1 : r.1.length ≤ 1000 := by omega
      have l2 : r.2.1.length ≤ 1000 := by omega
      have w2 : way ≤ 2 := by omega
      have s11 := same_new (o := .lst [V.str r.1, V.str r.2.1, V.int r.2.2.1, V.int m]) hLp
      have e11 := new_at (o := .lst [V.str r.1, V.str r.2.1, V.int r.2.2.1, V.int m]) hLp
      have S11 := S10.same s11
      have hp11 := s11 _ _ hp10
      have nP : Lp ≠ d := S10.D.ne hLp
      have nPL : L ≠ Lp := by
        obtain ⟨_, _, _, h, _⟩ := id S10.c
        exact ne_of_none h hLp
      have nPR : Lr ≠ Lp := by
        obtain ⟨_, h, _⟩ := id S10.l
        exact ne_of_none h hLp
      have nPN : Ln ≠ Lp := ne_of_none S10.nm hLp
      generalize (upd H10 Lp (.lst [V.str r.1, V.str r.2.1, V.int r.2.2.1, V.int m])) = H11 at S11 hp11 e11
      refine ⟨_, rfl, _, rfl, _, rfl, _, rfl, _, rfl, d, a, x, L, Lr, Lp, ns, way, r.1, r.2.1, r.2.2.1, m, rows, rfl, S11.D, S11.c, S11.l, Z.nL, Z.nR, nP, w0, w2, e11, by omega, g1, g2, g3, g4, fun H12 D12 k12 => ⟨_, rfl, iteF ?_⟩⟩
      have S12 := S11.draw Z D12 k12
      have hp12 := (S11.D.tups k12) _ _ hp11
      have e12 := k12 _ _ e11 nP
      obtain ⟨dx, _, hx12, _, _⟩ := id S12.c
      refine ⟨_, rfl, x, dx, _, rfl, hx12, rfl, x, L, .non, rows, rows, rfl, S12.c, .inl ⟨rfl, rfl⟩, fun L' rs' H13 h13 ra13 _ s13 => ?_⟩
      have S13 := S12.same s13
      obtain ⟨rsr, hLr13, rar⟩ := id S13.l
      have okr : ∀ z ∈ rows, Okt z.1 ∧ Okt z.2.1 := fun z hz => ⟨nameOk.okt (S13.good z hz).1, nameOk.okt (S13.good z hz).2.1⟩
      refine ⟨_, rfl, _, _, .lst (SqL.of h13) (dp_rowsN _ _ ra13), .lst (SqL.of hLr13) (dp_rowsN _ _ rar), shaped_rows _ okr, shaped_rows _ okr, _, rfl, ?_⟩
      rw [eqv_rowsG S13.good]
      refine iteF ?_
      have e13 := s13 _ _ e12
      have hp13 := s13 _ _ hp12
      have lm0 : m ≤ (rows.length : Int) := by omega
      refine ⟨_, rfl, _, rfl, _, rfl, x, L, Lp, way, _, _, _, _, rows, rfl, w0, w2, e13, S13.c, l1, l2, (by omega), .inl ⟨r.2.2.1, m, rfl, rfl, g1, g2, g3, g4, m0, lm0, fun pa1 A1 ta1 sa1 => ?_⟩⟩
      refine ⟨_, rfl, _, rfl, _, rfl, Lp, Lr, way, _, _, _, m, rows, rfl, w0, w2, sa1 _ _ e13, (S13.same sa1).l, (by omega), S13.good, g1, g2, m0, lm0, fun pb1 B1 tb1 sb1 => ?_⟩
      obtain ⟨Da1, ia1, dpa1⟩ := (ta1.same sb1).dp (K := K)
      obtain ⟨Db1, ib1, dpb1⟩ := tb1.dp (K := K)
      have ed1 := ib1.unique ia1
      subst ed1
      have ly1 := ia1.lay fun z hz => ⟨nameOk.okt (S13.good z (List.mem_of_mem_take hz)).1, nameOk.okt (S13.good z (List.mem_of_mem_take hz)).2.1⟩
      refine ⟨_, _, dpa1, dpb1, shaped_told ly1, shaped_told ly1, _, rfl, ?_⟩
      rw [eqv_told ly1]
      refine iteF ?_
      have s14 := sa1.trans sb1
      have S14 := S13.same s14
      have e14 := s14 _ _ e13
      have hp14 := s14 _ _ hp13
      obtain ⟨rs14, hLr14, ra14⟩ := id S14.l
      have el14 : (((rs14.map V.ref).length : Nat) : Int) = (rows.length : Int) := by rw [List.length_map, ra14.len]
      refine ⟨_, rfl, Lr, _, rfl, .inl (SqL.of hLr14), _, _, rfl, rfl, _, rfl, Lp, _, _, 3, rfl, rfl, e14, rfl, ?_⟩
      rw [el14]
      have S15 := S14.part (ys := [V.str r.1, V.str r.2.1, V.int r.2.2.1, V.int ((rows.length : Int) + 1)]) _ e14 nP nPL nPR nPN
      have e15 := upd_same (H := B1) (a := Lp) (o := .lst [V.str r.1, V.str r.2.1, V.int r.2.2.1, V.int ((rows.length : Int) + 1)])
      have hp15 := Tups.upd (o := .lst [V.str r.1, V.str r.2.1, V.int r.2.2.1, V.int ((rows.length : Int) + 1)]) e14 _ _ hp14
      have ebq : (upd B1 Lp (.lst ([V.str r.1, V.str r.2.1, V.int r.2.2.1, V.int m].set 3 (V.int ((rows.length : Int) + 1))))) = upd B1 Lp (.lst [V.str r.1, V.str r.2.1, V.int r.2.2.1, V.int ((rows.length : Int) + 1)]) := rfl
      rw [ebq]
      clear ebq
      generalize (upd B1 Lp (.lst [V.str r.1, V.str r.2.1, V.int r.2.2.1, V.int ((rows.length : Int) + 1)])) = H15 at S15 e15 hp15
      have bad : BadN rows.length (V.int ((rows.length : Int) + 1)) := .inl ⟨_, rfl, by omega⟩
      have fbA : FirstBadA t way r.1 r.2.1 (.int r.2.2.1) (.int ((rows.length : Int) + 1)) rows.length t.C_NoBook := by
        have w3 : way = 0 ∨ way = 1 ∨ way = 2 := by omega
        rcases w3 with rfl | rfl | rfl
        · exact .inl ⟨rfl, .inr (.inr (.inr ⟨g1, g2, ⟨_, rfl, g3, g4⟩, bad, rfl⟩))⟩
        · exact .inr (.inl ⟨rfl, .inr (.inr ⟨g1, g2, bad, rfl⟩)⟩)
        · exact .inr (.inr ⟨rfl, bad, rfl⟩)
      have okb : Okt "book" := by unfold Okt; decide +kernel
      refine ⟨_, rfl, _, rfl, _, rfl, x, L, Lp, way, _, _, _, _, rows, rfl, w0, w2, e15, S15.c, l1, l2, by omega, .inr ⟨_, "book", fbA, .inr (.inr ⟨rfl, rfl⟩), fun pc H16 rc s16 => ?_⟩⟩
      refine ⟨(by show 1 ≤ sizeLine; decide), fun e0 he0 => ?_⟩
      have z0 := same_new (o := .lst [V.str "book"]) he0
      have x0 := new_at (o := .lst [V.str "book"]) he0
      refine ⟨(by show 2 ≤ sizeLine; decide), fun f0 hf0 => ?_⟩
      have y0 := same_new (o := .tup [V.str "refused", V.ref e0]) hf0
      have rf : RefAt _ f0 "book" := ⟨e0, upd_same, y0 _ _ x0⟩
      refine ⟨_, _, ((rc.same z0).same y0).dp, rf.dp, shaped_ref okb, shaped_ref okb, _, rfl, ?_⟩
      rw [eqv_ref okb]
      refine iteF ?_
      have s17 := (s16.trans z0).trans y0
      have S17 := S15.same s17
      have e17 := s17 _ _ e15
      have hp17 := s17 _ _ hp15
      clear rf
      generalize upd (upd H16 e0 (.lst [V.str "book"])) f0 (.tup [V.str "refused", V.ref e0]) = H17 at *
      obtain ⟨rs17, hLr17, ra17⟩ := id S17.l
      refine ⟨_, rfl, .inl ⟨rfl, _, SqL.of hLr17⟩, _, rfl, Lr, _, _, rfl, rfl, hLr17, small1000 (by rw [List.length_map, ra17.len]; omega), ?_⟩
      have k18 : Keep Lr H17 (upd H17 Lr (.lst (rs17.map V.ref ++ [V.ref p]))) := fun b o e nb => by rw [upd_ne nb]; exact e
      have t18 := Tups.upd (o := .lst (rs17.map V.ref ++ [V.ref p])) hLr17
      have l18 : LRows (upd H17 Lr (.lst (rs17.map V.ref ++ [V.ref p]))) Lr (rows ++ [r]) := LRows.push hLr17 ra17 hp17
      have hp18 := t18 _ _ hp17
      have D18 := S17.D.upd (o := .lst (rs17.map V.ref ++ [V.ref p])) Z.nR (nofrz hLr17)
      have c18 := S17.c.keep k18 hLr17 Z.nLR
      have nm18 := k18 _ _ S17.nm Z.nRN.symm
      have e18 := k18 _ _ e17 nPR.symm
      generalize (upd H17 Lr (.lst (rs17.map V.ref ++ [V.ref p]))) = H18 at l18 hp18 D18 c18 nm18 e18
      obtain ⟨dx8, _, hx18, hL18, _⟩ := id c18
      refine ⟨_, rfl, x, dx8, _, rfl, hx18, rfl, _, rfl, p, _, 0, _, rfl, rfl, SqT.of hp18, at_of (j := 0) (by decide) rfl, _, rfl, p, _, 1, _, rfl, rfl, SqT.of hp18, at_of (j := 1) (by decide) rfl, _, rfl, p, _, 2, _, rfl, rfl, SqT.of hp18, at_of (j := 2) (by decide) rfl, _, rfl, p, _, 3, _, rfl, rfl, SqT.of hp18, at_of (j := 3) (by decide) rfl, x, L, r.1, r.2.1, r.2.2.1, r.2.2.2, rows, rfl, c18, g1, g2, g3, g4, g5, g6, by omega, fun H19 c19 k19 => ?_⟩
      have l19 := l18.keep k19 hL18 Z.nLR.symm
      have D19 : DrawAt K H19 d a ns := by
        obtain ⟨z, z0, hz⟩ := D18.ex
        exact ⟨⟨z, z0, k19 _ _ hz Z.nL.symm⟩, D18.sc.keep k19 (nofrz hL18), D18.len⟩
      have S19 : St17 K t.C_Calls H19 d a x L Lr Ln ns [n1, n2, n3, n4] (rows ++ [r]) := ⟨D19, c19, l19, k19 _ _ nm18 Z.nLN.symm, (fun z h => by
        rcases List.mem_append.mp h with z1 | z1
        · exact S17.good z z1
        · rw [List.mem_singleton.mp z1]; exact gr)⟩
      have e19 := k19 _ _ e18 nPL.symm
      have l31 : (rows ++ [r]).length = i + 1 := by rw [List.length_append, li]; rfl
      have l32 : ((rows ++ [r]).length : Int) = (rows.length : Int) + 1 := by rw [l31, li]; rfl
      generalize (rows ++ [r]) = rows2 at S19 l31 l32
      obtain ⟨rs19, hLr19, ra19⟩ := id S19.l
      refine ⟨_, rfl, Lr, _, rfl, .inl (SqL.of hLr19), _, _, rfl, ?_, _, rfl, iteN rfl ?_⟩
      · rw [List.length_map, ra19.len, l31, li]; rfl
      refine ⟨_, rfl, _, rfl, _, rfl, x, L, Lp, way, _, _, _, _, rows2, rfl, w0, w2, e19, S19.c, l1, l2, (by omega), .inl ⟨r.2.2.1, ((rows.length : Int) + 1), rfl, rfl, g1, g2, g3, g4, (by omega), (by omega), fun pa2 A2 ta2 sa2 => ?_⟩⟩
      refine ⟨_, rfl, _, rfl, _, rfl, Lp, Lr, way, _, _, _, ((rows.length : Int) + 1), rows2, rfl, w0, w2, sa2 _ _ e19, (S19.same sa2).l, (by omega), S19.good, g1, g2, (by omega), (by omega), fun pb2 B2 tb2 sb2 => ?_⟩
      obtain ⟨Da2, ia2, dpa2⟩ := (ta2.same sb2).dp (K := K)
      obtain ⟨Db2, ib2, dpb2⟩ := tb2.dp (K := K)
      have ed2 := ib2.unique ia2
      subst ed2
      have ly2 := ia2.lay fun z hz => ⟨nameOk.okt (S19.good z (List.mem_of_mem_take hz)).1, nameOk.okt (S19.good z (List.mem_of_mem_take hz)).2.1⟩
      refine ⟨_, _, dpa2, dpb2, shaped_told ly2, shaped_told ly2, _, rfl, ?_⟩
      rw [eqv_told ly2]
      refine iteF ?_
      exact ⟨_, _, _, _, rows2, rfl, (S19.same sa2).same sb2, l31⟩
    · rintro σ H6 ⟨o5, o6, o7, o8, rows, rfl, S6, li⟩
      exact k H6
end
end Ck
set_option Elab.async false
set_option linter.all false
set_option maxRecDepth 100000
set_option maxHeartbeats 4000000
namespace Ck
open PySem L2
theorem walk {l : PySem.W.OpenLaw} {q : Program} {loose : List Str} {XP : (Str → Option Value) → Heap → Prop} {YP : World → Heap → Prop} {d : DefRec} {K : Params → PySem.W.Frag} (hn : l.most = some 63) (hdf : d.params.defaults = [])
    (hnm : d.name = "law") (hY : ∀ (w : World) (h : Heap), YP w h → (K w.params).In h)
    (F : ∀ (w : World) (mg : Str → Option Value) (h : Heap), (K w.params).In h → h.Ns mainGlobals mg → ∃ t : Ad, Env (K w.params) mg t) :
    PySem.W.WalkO q loose XP YP l.row.toRowW d [] (fun f vs => PySem.call f vs) := by
  refine L2.walk_of (n := 63) (k := 8) (x := "_law_script") (CX := fun _ => CX0) (sp := fun w => spLaw (K w.params)) hn (by decide) hdf ⟨rfl, by decide, by decide⟩ hY ?_ (fun _ _ a ns hl hO hS => ⟨a, ns, rfl, Scr.of hS hO, hl, fun _ => rfl⟩) fun _ _ _ _ _ z => z
  intro w mg fa h KX G hmg
  obtain ⟨t, T⟩ := F w mg h KX G
  have e := hmg.symm.trans ((congrArg mg hnm).trans T.mg_law)
  cases e
  refine ⟨t.fd_law, ?_, fun base _ _ => ok_law T⟩
  obtain ⟨oc, od, kV, doc, pm, an, cdv, ct, osl, e, lk, hcd⟩ := T.f_law.ex
  rw [e]
  exact fun s v => .of_eq rfl
end Ck
open PySem PySem.W PyProof.Rows
set_option maxRecDepth 100000 in
set_option maxHeartbeats 0 in
theorem PySem.Challenge.cw_callcoin_k18_refused_questions_holds : PySem.Challenge.rw_callcoin_k18_refused_questions.Holds := by
  w_on; o_law; k_head; (case hw => w_witness2)
  k_fill
  refine Ck.walk (l := PySem.Challenge.rw_callcoin_k18_refused_questions) rfl rfl rfl (fun w h Y => PySem.W.kIn_of Y) ?F
  case F =>
    intro w mg h KX G
    refine' Ck.env_mk KX G ?n_Calls ?pg_Calls ?hd_Calls ?po_Calls ?sa_Calls ?mk_Calls ?kc_Calls ?no_Calls_rows ?n_NoName ?n_NoDay ?n_NoBook ?n_NoWorth ?n_TooMany ?n_NoMany ?n_NoAmount ?n_CoinError ?e0_NoName ?e1_NoName ?e2_NoName ?e3_NoName ?is_NoName_NoName ?is_NoName_NoDay ?is_NoName_NoWorth ?is_NoName_NoBook ?is_NoName_TooMany ?is_NoName_NoMany ?is_NoName_NoAmount ?is_NoName_ValueError ?ca_NoName_CoinError ?e0_NoDay ?e1_NoDay ?e2_NoDay ?e3_NoDay ?is_NoDay_NoName ?is_NoDay_NoDay ?is_NoDay_NoWorth ?is_NoDay_NoBook ?is_NoDay_TooMany ?is_NoDay_NoMany ?is_NoDay_NoAmount ?is_NoDay_ValueError ?ca_NoDay_CoinError ?e0_NoBook ?e1_NoBook ?e2_NoBook ?e3_NoBook ?is_NoBook_NoName ?is_NoBook_NoDay ?is_NoBook_NoWorth ?is_NoBook_NoBook ?is_NoBook_TooMany ?is_NoBook_NoMany ?is_NoBook_NoAmount ?is_NoBook_ValueError ?ca_NoBook_CoinError ?n_is_made_of ?l_is_made_of ?c_is_made_of ?k_is_made_of ?n_is_word ?l_is_word ?c_is_word ?k_is_word ?n_is_name ?l_is_name ?c_is_name ?k_is_name ?n_is_number ?l_is_number ?c_is_number ?k_is_number ?n_is_within ?l_is_within ?c_is_within ?k_is_within ?n_is_day ?l_is_day ?c_is_day ?k_is_day ?n_is_worth ?l_is_worth ?c_is_worth ?k_is_worth ?n_check_name ?l_check_name ?c_check_name ?k_check_name ?n_check_day ?l_check_day ?c_check_day ?k_check_day ?n_check_worth ?l_check_worth ?c_check_worth ?k_check_worth ?n_Calls_init ?i_Calls_init ?l_Calls_init ?c_Calls_init ?k_Calls_init ?n_Calls_len ?i_Calls_len ?l_Calls_len ?c_Calls_len ?k_Calls_len ?n_Calls_tell ?i_Calls_tell ?l_Calls_tell ?c_Calls_tell ?k_Calls_tell ?n_Calls_worth ?i_Calls_worth ?l_Calls_worth ?lT_Calls_worth ?c_Calls_worth ?k_Calls_worth ?n_Calls_turns ?i_Calls_turns ?l_Calls_turns ?lT_Calls_turns ?c_Calls_turns ?k_Calls_turns ?n_Calls_tellings ?i_Calls_tellings ?l_Calls_tellings ?lT_Calls_tellings ?c_Calls_tellings ?k_Calls_tellings ?n_Calls_worths_by_day ?i_Calls_worths_by_day ?l_Calls_worths_by_day ?c_Calls_worths_by_day ?k_Calls_worths_by_day ?n_l_mixed ?l_l_mixed ?c_l_mixed ?k_l_mixed ?n_l_next ?l_l_next ?c_l_next ?k_l_next ?n_l_word ?l_l_word ?c_l_word ?k_l_word ?n_l_words ?l_l_words ?c_l_words ?k_l_words ?n_l_is ?l_l_is ?c_l_is ?k_l_is ?n_l_edge ?l_l_edge ?c_l_edge ?k_l_edge ?n_l_day ?l_l_day ?c_l_day ?k_l_day ?n_l_due ?l_l_due ?c_l_due ?k_l_due ?n_l_turns ?l_l_turns ?c_l_turns ?k_l_turns ?n_l_row ?l_l_row ?c_l_row ?k_l_row ?n_l_bad_name ?l_l_bad_name ?c_l_bad_name ?k_l_bad_name ?n_l_bad_number ?l_l_bad_number ?c_l_bad_number ?k_l_bad_number ?n_l_named ?l_l_named ?c_l_named ?k_l_named ?n_l_asked ?l_l_asked ?c_l_asked ?k_l_asked ?n_l_answer ?l_l_answer ?c_l_answer ?k_l_answer ?n_l_refused ?l_l_refused ?c_l_refused ?k_l_refused ?n_law ?l_law ?c_law ?k_law ?n_SMALL_LETTERS ?n_LONGEST_NAME ?n_MOST_DAY ?n_MOST_WORTH ?n_MOST_TELLINGS ?z_len ?z_range ?z_max ?z_min ?z_isinstance ?z_all ?z_str ?z_bool ?z_int ?z_list ?z_sorted ?z_set ?z_ValueError
    (case n_Calls => first | k_is | k_exc | kit_is | kts_exm | kernel_rfl)
    (case pg_Calls => first | k_is | k_exc | kit_is | kts_exm | kernel_rfl)
    (case hd_Calls => first | k_is | k_exc | kit_is | kts_exm | kernel_rfl)
    (case po_Calls => first | k_is | k_exc | kit_is | kts_exm | kernel_rfl)
    (case sa_Calls => first | k_is | k_exc | kit_is | kts_exm | kernel_rfl)
    (case mk_Calls => first | k_is | k_exc | kit_is | kts_exm | kernel_rfl)
    (case kc_Calls => first | k_is | k_exc | kit_is | kts_exm | kernel_rfl)
    (case no_Calls_rows => first | k_is | k_exc | kit_is | kts_exm | kernel_rfl)
    (case n_NoName => first | k_is | k_exc | kit_is | kts_exm | kernel_rfl)
    (case n_NoDay => first | k_is | k_exc | kit_is | kts_exm | kernel_rfl)
    (case n_NoBook => first | k_is | k_exc | kit_is | kts_exm | kernel_rfl)
    (case n_NoWorth => first | k_is | k_exc | kit_is | kts_exm | kernel_rfl)
    (case n_TooMany => first | k_is | k_exc | kit_is | kts_exm | kernel_rfl)
    (case n_NoMany => first | k_is | k_exc | kit_is | kts_exm | kernel_rfl)
    (case n_NoAmount => first | k_is | k_exc | kit_is | kts_exm | kernel_rfl)
    (case n_CoinError => first | k_is | k_exc | kit_is | kts_exm | kernel_rfl)
    (case e0_NoName => first | k_is | k_exc | kit_is | kts_exm | kernel_rfl)
    (case e1_NoName => first | k_is | k_exc | kit_is | kts_exm | kernel_rfl)
    (case e2_NoName => first | k_is | k_exc | kit_is | kts_exm | kernel_rfl)
    (case e3_NoName => first | k_is | k_exc | kit_is | kts_exm | kernel_rfl)
    (case is_NoName_NoName => first | k_is | k_exc | kit_is | kts_exm | kernel_rfl)
    (case is_NoName_NoDay => first | k_is | k_exc | kit_is | kts_exm | kernel_rfl)
    (case is_NoName_NoWorth => first | k_is | k_exc | kit_is | kts_exm | kernel_rfl)
    (case is_NoName_NoBook => first | k_is | k_exc | kit_is | kts_exm | kernel_rfl)
    (case is_NoName_TooMany => first | k_is | k_exc | kit_is | kts_exm | kernel_rfl)
    (case is_NoName_NoMany => first | k_is | k_exc | kit_is | kts_exm | kernel_rfl)
    (case is_NoName_NoAmount => first | k_is | k_exc | kit_is | kts_exm | kernel_rfl)
    (case is_NoName_ValueError => first | k_is | k_exc | kit_is | kts_exm | kernel_rfl)
    (case ca_NoName_CoinError => first | k_is | k_exc | kit_is | kts_exm | kernel_rfl)
    (case e0_NoDay => first | k_is | k_exc | kit_is | kts_exm | kernel_rfl)
    (case e1_NoDay => first | k_is | k_exc | kit_is | kts_exm | kernel_rfl)
    (case e2_NoDay => first | k_is | k_exc | kit_is | kts_exm | kernel_rfl)
    (case e3_NoDay => first | k_is | k_exc | kit_is | kts_exm | kernel_rfl)
    (case is_NoDay_NoName => first | k_is | k_exc | kit_is | kts_exm | kernel_rfl)
    (case is_NoDay_NoDay => first | k_is | k_exc | kit_is | kts_exm | kernel_rfl)
    (case is_NoDay_NoWorth => first | k_is | k_exc | kit_is | kts_exm | kernel_rfl)
    (case is_NoDay_NoBook => first | k_is | k_exc | kit_is | kts_exm | kernel_rfl)
    (case is_NoDay_TooMany => first | k_is | k_exc | kit_is | kts_exm | kernel_rfl)
    (case is_NoDay_NoMany => first | k_is | k_exc | kit_is | kts_exm | kernel_rfl)
    (case is_NoDay_NoAmount => first | k_is | k_exc | kit_is | kts_exm | kernel_rfl)
    (case is_NoDay_ValueError => first | k_is | k_exc | kit_is | kts_exm | kernel_rfl)
    (case ca_NoDay_CoinError => first | k_is | k_exc | kit_is | kts_exm | kernel_rfl)
    (case e0_NoBook => first | k_is | k_exc | kit_is | kts_exm | kernel_rfl)
    (case e1_NoBook => first | k_is | k_exc | kit_is | kts_exm | kernel_rfl)
    (case e2_NoBook => first | k_is | k_exc | kit_is | kts_exm | kernel_rfl)
    (case e3_NoBook => first | k_is | k_exc | kit_is | kts_exm | kernel_rfl)
    (case is_NoBook_NoName => first | k_is | k_exc | kit_is | kts_exm | kernel_rfl)
    (case is_NoBook_NoDay => first | k_is | k_exc | kit_is | kts_exm | kernel_rfl)
    (case is_NoBook_NoWorth => first | k_is | k_exc | kit_is | kts_exm | kernel_rfl)
    (case is_NoBook_NoBook => first | k_is | k_exc | kit_is | kts_exm | kernel_rfl)
    (case is_NoBook_TooMany => first | k_is | k_exc | kit_is | kts_exm | kernel_rfl)
    (case is_NoBook_NoMany => first | k_is | k_exc | kit_is | kts_exm | kernel_rfl)
    (case is_NoBook_NoAmount => first | k_is | k_exc | kit_is | kts_exm | kernel_rfl)
    (case is_NoBook_ValueError => first | k_is | k_exc | kit_is | kts_exm | kernel_rfl)
    (case ca_NoBook_CoinError => first | k_is | k_exc | kit_is | kts_exm | kernel_rfl)
    (case n_is_made_of => first | k_is | k_exc | kit_is | kts_exm | kernel_rfl)
    (case l_is_made_of => first | k_is | k_exc | kit_is | kts_exm | kernel_rfl)
    (case c_is_made_of => first | k_is | k_exc | kit_is | kts_exm | kernel_rfl)
    (case k_is_made_of => first | k_is | k_exc | kit_is | kts_exm | kernel_rfl)
    (case n_is_word => first | k_is | k_exc | kit_is | kts_exm | kernel_rfl)
    (case l_is_word => first | k_is | k_exc | kit_is | kts_exm | kernel_rfl)
    (case c_is_word => first | k_is | k_exc | kit_is | kts_exm | kernel_rfl)
    (case k_is_word => first | k_is | k_exc | kit_is | kts_exm | kernel_rfl)
    (case n_is_name => first | k_is | k_exc | kit_is | kts_exm | kernel_rfl)
    (case l_is_name => first | k_is | k_exc | kit_is | kts_exm | kernel_rfl)
    (case c_is_name => first | k_is | k_exc | kit_is | kts_exm | kernel_rfl)
    (case k_is_name => first | k_is | k_exc | kit_is | kts_exm | kernel_rfl)
    (case n_is_number => first | k_is | k_exc | kit_is | kts_exm | kernel_rfl)
    (case l_is_number => first | k_is | k_exc | kit_is | kts_exm | kernel_rfl)
    (case c_is_number => first | k_is | k_exc | kit_is | kts_exm | kernel_rfl)
    (case k_is_number => first | k_is | k_exc | kit_is | kts_exm | kernel_rfl)
    (case n_is_within => first | k_is | k_exc | kit_is | kts_exm | kernel_rfl)
    (case l_is_within => first | k_is | k_exc | kit_is | kts_exm | kernel_rfl)
    (case c_is_within => first | k_is | k_exc | kit_is | kts_exm | kernel_rfl)
    (case k_is_within => first | k_is | k_exc | kit_is | kts_exm | kernel_rfl)
    (case n_is_day => first | k_is | k_exc | kit_is | kts_exm | kernel_rfl)
    (case l_is_day => first | k_is | k_exc | kit_is | kts_exm | kernel_rfl)
    (case c_is_day => first | k_is | k_exc | kit_is | kts_exm | kernel_rfl)
    (case k_is_day => first | k_is | k_exc | kit_is | kts_exm | kernel_rfl)
    (case n_is_worth => first | k_is | k_exc | kit_is | kts_exm | kernel_rfl)
    (case l_is_worth => first | k_is | k_exc | kit_is | kts_exm | kernel_rfl)
    (case c_is_worth => first | k_is | k_exc | kit_is | kts_exm | kernel_rfl)
    (case k_is_worth => first | k_is | k_exc | kit_is | kts_exm | kernel_rfl)
    (case n_check_name => first | k_is | k_exc | kit_is | kts_exm | kernel_rfl)
    (case l_check_name => first | k_is | k_exc | kit_is | kts_exm | kernel_rfl)
    (case c_check_name => first | k_is | k_exc | kit_is | kts_exm | kernel_rfl)
    (case k_check_name => first | k_is | k_exc | kit_is | kts_exm | kernel_rfl)
    (case n_check_day => first | k_is | k_exc | kit_is | kts_exm | kernel_rfl)
    (case l_check_day => first | k_is | k_exc | kit_is | kts_exm | kernel_rfl)
    (case c_check_day => first | k_is | k_exc | kit_is | kts_exm | kernel_rfl)
    (case k_check_day => first | k_is | k_exc | kit_is | kts_exm | kernel_rfl)
    (case n_check_worth => first | k_is | k_exc | kit_is | kts_exm | kernel_rfl)
    (case l_check_worth => first | k_is | k_exc | kit_is | kts_exm | kernel_rfl)
    (case c_check_worth => first | k_is | k_exc | kit_is | kts_exm | kernel_rfl)
    (case k_check_worth => first | k_is | k_exc | kit_is | kts_exm | kernel_rfl)
    (case n_Calls_init => first | k_is | k_exc | kit_is | kts_exm | kernel_rfl)
    (case i_Calls_init => first | k_is | k_exc | kit_is | kts_exm | kernel_rfl)
    (case l_Calls_init => first | k_is | k_exc | kit_is | kts_exm | kernel_rfl)
    (case c_Calls_init => first | k_is | k_exc | kit_is | kts_exm | kernel_rfl)
    (case k_Calls_init => first | k_is | k_exc | kit_is | kts_exm | kernel_rfl)
    (case n_Calls_len => first | k_is | k_exc | kit_is | kts_exm | kernel_rfl)
    (case i_Calls_len => first | k_is | k_exc | kit_is | kts_exm | kernel_rfl)
    (case l_Calls_len => first | k_is | k_exc | kit_is | kts_exm | kernel_rfl)
    (case c_Calls_len => first | k_is | k_exc | kit_is | kts_exm | kernel_rfl)
    (case k_Calls_len => first | k_is | k_exc | kit_is | kts_exm | kernel_rfl)
    (case n_Calls_tell => first | k_is | k_exc | kit_is | kts_exm | kernel_rfl)
    (case i_Calls_tell => first | k_is | k_exc | kit_is | kts_exm | kernel_rfl)
    (case l_Calls_tell => first | k_is | k_exc | kit_is | kts_exm | kernel_rfl)
    (case c_Calls_tell => first | k_is | k_exc | kit_is | kts_exm | kernel_rfl)
    (case k_Calls_tell => first | k_is | k_exc | kit_is | kts_exm | kernel_rfl)
    (case n_Calls_worth => first | k_is | k_exc | kit_is | kts_exm | kernel_rfl)
    (case i_Calls_worth => first | k_is | k_exc | kit_is | kts_exm | kernel_rfl)
    (case l_Calls_worth => first | k_is | k_exc | kit_is | kts_exm | kernel_rfl)
    (case lT_Calls_worth => first | k_is | k_exc | kit_is | kts_exm | kernel_rfl)
    (case c_Calls_worth => first | k_is | k_exc | kit_is | kts_exm | kernel_rfl)
    (case k_Calls_worth => first | k_is | k_exc | kit_is | kts_exm | kernel_rfl)
    (case n_Calls_turns => first | k_is | k_exc | kit_is | kts_exm | kernel_rfl)
    (case i_Calls_turns => first | k_is | k_exc | kit_is | kts_exm | kernel_rfl)
    (case l_Calls_turns => first | k_is | k_exc | kit_is | kts_exm | kernel_rfl)
    (case lT_Calls_turns => first | k_is | k_exc | kit_is | kts_exm | kernel_rfl)
    (case c_Calls_turns => first | k_is | k_exc | kit_is | kts_exm | kernel_rfl)
    (case k_Calls_turns => first | k_is | k_exc | kit_is | kts_exm | kernel_rfl)
    (case n_Calls_tellings => first | k_is | k_exc | kit_is | kts_exm | kernel_rfl)
    (case i_Calls_tellings => first | k_is | k_exc | kit_is | kts_exm | kernel_rfl)
    (case l_Calls_tellings => first | k_is | k_exc | kit_is | kts_exm | kernel_rfl)
    (case lT_Calls_tellings => first | k_is | k_exc | kit_is | kts_exm | kernel_rfl)
    (case c_Calls_tellings => first | k_is | k_exc | kit_is | kts_exm | kernel_rfl)
    (case k_Calls_tellings => first | k_is | k_exc | kit_is | kts_exm | kernel_rfl)
    (case n_Calls_worths_by_day => first | k_is | k_exc | kit_is | kts_exm | kernel_rfl)
    (case i_Calls_worths_by_day => first | k_is | k_exc | kit_is | kts_exm | kernel_rfl)
    (case l_Calls_worths_by_day => first | k_is | k_exc | kit_is | kts_exm | kernel_rfl)
    (case c_Calls_worths_by_day => first | k_is | k_exc | kit_is | kts_exm | kernel_rfl)
    (case k_Calls_worths_by_day => first | k_is | k_exc | kit_is | kts_exm | kernel_rfl)
    (case n_l_mixed => first | k_is | k_exc | kit_is | kts_exm | kernel_rfl)
    (case l_l_mixed => first | k_is | k_exc | kit_is | kts_exm | kernel_rfl)
    (case c_l_mixed => first | k_is | k_exc | kit_is | kts_exm | kernel_rfl)
    (case k_l_mixed => first | k_is | k_exc | kit_is | kts_exm | kernel_rfl)
    (case n_l_next => first | k_is | k_exc | kit_is | kts_exm | kernel_rfl)
    (case l_l_next => first | k_is | k_exc | kit_is | kts_exm | kernel_rfl)
    (case c_l_next => first | k_is | k_exc | kit_is | kts_exm | kernel_rfl)
    (case k_l_next => first | k_is | k_exc | kit_is | kts_exm | kernel_rfl)
    (case n_l_word => first | k_is | k_exc | kit_is | kts_exm | kernel_rfl)
    (case l_l_word => first | k_is | k_exc | kit_is | kts_exm | kernel_rfl)
    (case c_l_word => first | k_is | k_exc | kit_is | kts_exm | kernel_rfl)
    (case k_l_word => first | k_is | k_exc | kit_is | kts_exm | kernel_rfl)
    (case n_l_words => first | k_is | k_exc | kit_is | kts_exm | kernel_rfl)
    (case l_l_words => first | k_is | k_exc | kit_is | kts_exm | kernel_rfl)
    (case c_l_words => first | k_is | k_exc | kit_is | kts_exm | kernel_rfl)
    (case k_l_words => first | k_is | k_exc | kit_is | kts_exm | kernel_rfl)
    (case n_l_is => first | k_is | k_exc | kit_is | kts_exm | kernel_rfl)
    (case l_l_is => first | k_is | k_exc | kit_is | kts_exm | kernel_rfl)
    (case c_l_is => first | k_is | k_exc | kit_is | kts_exm | kernel_rfl)
    (case k_l_is => first | k_is | k_exc | kit_is | kts_exm | kernel_rfl)
    (case n_l_edge => first | k_is | k_exc | kit_is | kts_exm | kernel_rfl)
    (case l_l_edge => first | k_is | k_exc | kit_is | kts_exm | kernel_rfl)
    (case c_l_edge => first | k_is | k_exc | kit_is | kts_exm | kernel_rfl)
    (case k_l_edge => first | k_is | k_exc | kit_is | kts_exm | kernel_rfl)
    (case n_l_day => first | k_is | k_exc | kit_is | kts_exm | kernel_rfl)
    (case l_l_day => first | k_is | k_exc | kit_is | kts_exm | kernel_rfl)
    (case c_l_day => first | k_is | k_exc | kit_is | kts_exm | kernel_rfl)
    (case k_l_day => first | k_is | k_exc | kit_is | kts_exm | kernel_rfl)
    (case n_l_due => first | k_is | k_exc | kit_is | kts_exm | kernel_rfl)
    (case l_l_due => first | k_is | k_exc | kit_is | kts_exm | kernel_rfl)
    (case c_l_due => first | k_is | k_exc | kit_is | kts_exm | kernel_rfl)
    (case k_l_due => first | k_is | k_exc | kit_is | kts_exm | kernel_rfl)
    (case n_l_turns => first | k_is | k_exc | kit_is | kts_exm | kernel_rfl)
    (case l_l_turns => first | k_is | k_exc | kit_is | kts_exm | kernel_rfl)
    (case c_l_turns => first | k_is | k_exc | kit_is | kts_exm | kernel_rfl)
    (case k_l_turns => first | k_is | k_exc | kit_is | kts_exm | kernel_rfl)
    (case n_l_row => first | k_is | k_exc | kit_is | kts_exm | kernel_rfl)
    (case l_l_row => first | k_is | k_exc | kit_is | kts_exm | kernel_rfl)
    (case c_l_row => first | k_is | k_exc | kit_is | kts_exm | kernel_rfl)
    (case k_l_row => first | k_is | k_exc | kit_is | kts_exm | kernel_rfl)
    (case n_l_bad_name => first | k_is | k_exc | kit_is | kts_exm | kernel_rfl)
    (case l_l_bad_name => first | k_is | k_exc | kit_is | kts_exm | kernel_rfl)
    (case c_l_bad_name => first | k_is | k_exc | kit_is | kts_exm | kernel_rfl)
    (case k_l_bad_name => first | k_is | k_exc | kit_is | kts_exm | kernel_rfl)
    (case n_l_bad_number => first | k_is | k_exc | kit_is | kts_exm | kernel_rfl)
    (case l_l_bad_number => first | k_is | k_exc | kit_is | kts_exm | kernel_rfl)
    (case c_l_bad_number => first | k_is | k_exc | kit_is | kts_exm | kernel_rfl)
    (case k_l_bad_number => first | k_is | k_exc | kit_is | kts_exm | kernel_rfl)
    (case n_l_named => first | k_is | k_exc | kit_is | kts_exm | kernel_rfl)
    (case l_l_named => first | k_is | k_exc | kit_is | kts_exm | kernel_rfl)
    (case c_l_named => first | k_is | k_exc | kit_is | kts_exm | kernel_rfl)
    (case k_l_named => first | k_is | k_exc | kit_is | kts_exm | kernel_rfl)
    (case n_l_asked => first | k_is | k_exc | kit_is | kts_exm | kernel_rfl)
    (case l_l_asked => first | k_is | k_exc | kit_is | kts_exm | kernel_rfl)
    (case c_l_asked => first | k_is | k_exc | kit_is | kts_exm | kernel_rfl)
    (case k_l_asked => first | k_is | k_exc | kit_is | kts_exm | kernel_rfl)
    (case n_l_answer => first | k_is | k_exc | kit_is | kts_exm | kernel_rfl)
    (case l_l_answer => first | k_is | k_exc | kit_is | kts_exm | kernel_rfl)
    (case c_l_answer => first | k_is | k_exc | kit_is | kts_exm | kernel_rfl)
    (case k_l_answer => first | k_is | k_exc | kit_is | kts_exm | kernel_rfl)
    (case n_l_refused => first | k_is | k_exc | kit_is | kts_exm | kernel_rfl)
    (case l_l_refused => first | k_is | k_exc | kit_is | kts_exm | kernel_rfl)
    (case c_l_refused => first | k_is | k_exc | kit_is | kts_exm | kernel_rfl)
    (case k_l_refused => first | k_is | k_exc | kit_is | kts_exm | kernel_rfl)
    (case n_law => first | k_is | k_exc | kit_is | kts_exm | kernel_rfl)
    (case l_law => first | k_is | k_exc | kit_is | kts_exm | kernel_rfl)
    (case c_law => first | k_is | k_exc | kit_is | kts_exm | kernel_rfl)
    (case k_law => first | k_is | k_exc | kit_is | kts_exm | kernel_rfl)
    (case n_SMALL_LETTERS => first | k_is | k_exc | kit_is | kts_exm | kernel_rfl)
    (case n_LONGEST_NAME => first | k_is | k_exc | kit_is | kts_exm | kernel_rfl)
    (case n_MOST_DAY => first | k_is | k_exc | kit_is | kts_exm | kernel_rfl)
    (case n_MOST_WORTH => first | k_is | k_exc | kit_is | kts_exm | kernel_rfl)
    (case n_MOST_TELLINGS => first | k_is | k_exc | kit_is | kts_exm | kernel_rfl)
    (case z_len => first | k_is | k_exc | kit_is | kts_exm | kernel_rfl)
    (case z_range => first | k_is | k_exc | kit_is | kts_exm | kernel_rfl)
    (case z_max => first | k_is | k_exc | kit_is | kts_exm | kernel_rfl)
    (case z_min => first | k_is | k_exc | kit_is | kts_exm | kernel_rfl)
    (case z_isinstance => first | k_is | k_exc | kit_is | kts_exm | kernel_rfl)
    (case z_all => first | k_is | k_exc | kit_is | kts_exm | kernel_rfl)
    (case z_str => first | k_is | k_exc | kit_is | kts_exm | kernel_rfl)
    (case z_bool => first | k_is | k_exc | kit_is | kts_exm | kernel_rfl)
    (case z_int => first | k_is | k_exc | kit_is | kts_exm | kernel_rfl)
    (case z_list => first | k_is | k_exc | kit_is | kts_exm | kernel_rfl)
    (case z_sorted => first | k_is | k_exc | kit_is | kts_exm | kernel_rfl)
    (case z_set => first | k_is | k_exc | kit_is | kts_exm | kernel_rfl)
    (case z_ValueError => first | k_is | k_exc | kit_is | kts_exm | kernel_rfl)
